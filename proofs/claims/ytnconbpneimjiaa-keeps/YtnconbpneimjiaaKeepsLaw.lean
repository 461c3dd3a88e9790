/-
  P10, P13 to P15: the law Keeps: the script's loop, then the keys'.
-/
import Derived.Test.YtnconbpneimjiaaKeepStep
import Derived.Test.YtnconbpneimjiaaKeepMk
namespace Go.Proofs.Ytnconbpneimjiaa
open Go.RowKit Go.PlainAid

/-- A step as the script has it. -/
structure StR where
  kd : Int
  a : Int
  d : Int
  s : ByteArray
/-- The script lies in memory. -/
def KScr (W : World) (ao : Option Addr) (n : Nat) (O : Nat → StR) : Prop := ∀ i, i < n → ∃ g off, ao = some ⟨g, off, none⟩ ∧ g < W.heap.size ∧ W.cell? ⟨g, off + i * 4, none⟩ = some (.int .i64 (O i).kd) ∧ W.cell? ⟨g, off + i * 4 + 1, none⟩ = some (.int .i64 (O i).a) ∧ W.cell? ⟨g, off + i * 4 + 2, none⟩ = some (.int .i64 (O i).d) ∧ W.cell? ⟨g, off + i * 4 + 3, none⟩ = some (.string (O i).s)
/-- What stands between two steps. -/
def KAll (W wr : World) (b x : Nat) (room : Int) (g c : Nat → Nat) (fls : Nat → ByteArray) : Prop := ∃ F l bnd rec wth has by', KSt wr W.heap.size b x room g c F l fls bnd rec wth has by' ∧ Below W.heap.size W wr
theorem KAll.next {W wr w' : World} {b x : Nat} {room : Int} {g c : Nat → Nat} {F : Nat → Prop} {l : List Ev} {fls bnd rec wth : Nat → ByteArray} {has : Nat → Bool} {by' : Nat → Nat} (h : KSt wr W.heap.size b x room g c F l fls bnd rec wth has by') (hb : Below W.heap.size W wr) (hp : KPost wr W.heap.size b x room g c F l fls w') : KAll W w' b x room g c fls := by
  obtain ⟨F', l', bnd', rec', wth', has', by'', q1, _, q3⟩ := hp
  exact ⟨F', l', bnd', rec', wth', has', by'', q1, hb.trans (q3.below hb.size (fun k hk => h.base k hk))⟩
theorem step_range {w : World} {g o : Nat} {v0 v1 v2 v3 : Value} (h0 : w.cell? ⟨g, o, none⟩ = some v0) (h1 : w.cell? ⟨g, o + 1, none⟩ = some v1) (h2 : w.cell? ⟨g, o + 2, none⟩ = some v2) (h3 : w.cell? ⟨g, o + 3, none⟩ = some v3) : w.rangeAt g o [v0, v1, v2, v3] := by
  intro j u hj
  match j, hj with
  | 0, hj => simp at hj; rw [← hj]; exact h0
  | 1, hj => simp at hj; rw [← hj]; exact h1
  | 2, hj => simp at hj; rw [← hj]; exact h2
  | 3, hj => simp at hj; rw [← hj]; exact h3
  | j + 4, hj => simp at hj
theorem sizeKSt : (Try.prog.info? 41).map (·.size) = some 4 := by kernel_rfl
set_option maxRecDepth 100000 in
set_option maxHeartbeats 3200000 in
theorem keeps_law (s t : ByteArray) (r : Int) (ao : Option Addr) (n cap : Nat) (O : Nat → StR) (W : World) (hs : s.size ≤ maxLen) (ht : t.size ≤ maxLen) (r0 : -9223372036854775808 ≤ r) (r1 : r ≤ 9223372036854775807) (hS : KScr W ao n O) (hO : ∀ i, i < n → StOk (O i).kd (O i).a (O i).d (O i).s) (hn : n ≤ 4000000000000) :
    Calls Try.prog 4 #[.string s, .string t, .int .i64 r, .slice ao n cap] W fun e w' => e = .returned (.bool true) ∧ Below W.heap.size W w' := by
  have HB := hid (begun_any s t r W hs ht r0 r1)
  have HSC := hid hS
  have HOK := hid hO
  clear hS hO hs ht r0 r1
  generalize kFl s t = fls at *
  go_enter Try.func4, Try.ntmps4
  go_wp2_with fail
  refine Calls.mono HB.out ?_
  rintro e w1 ⟨b, x, room, g, c, F, bnd, rec, wth, has, by', rfl, k1, k2⟩
  have HK1 := hid (show KAll W w1 b x room g c fls from ⟨F, [], bnd, rec, wth, has, by', k1, k2⟩)
  clear k1 k2
  go_wp2
  go_loopw [10, 11] (fun iv _ wr => ∃ i : Nat, iv = .int .i64 i ∧ i ≤ n ∧ KAll W wr b x room g c fls) (fun iv _ _ => n - (intOf iv).toNat)
  case atStart => exact ⟨0, rfl, Nat.zero_le _, HK1.out⟩
  case round =>
    obtain ⟨i, rfl, hin, hA⟩ := hrel
    by_cases hlt : i < n
    · obtain ⟨F, l, bnd, rec, wth, has, by', hK, hbel⟩ := hA
      obtain ⟨gs, off, rfl, hg, e0, e1, e2, e3⟩ := HSC.out i hlt
      have ho := HOK.out i hlt
      have f0 := (hbel.cell (p := ⟨gs, off + i * 4, none⟩) hg).trans e0
      have f1 := (hbel.cell (p := ⟨gs, off + i * 4 + 1, none⟩) hg).trans e1
      have f2 := (hbel.cell (p := ⟨gs, off + i * 4 + 2, none⟩) hg).trans e2
      have f3 := (hbel.cell (p := ⟨gs, off + i * 4 + 3, none⟩) hg).trans e3
      clear e0 e1 e2 e3
      generalize O i = o at *
      obtain ⟨kd, a, d, s'⟩ := o
      simp only at ho f0 f1 f2 f3
      have hrg := step_range f0 f1 f2 f3
      have HST := hid (kstep_any W.heap.size b x kd a d s' room g c F l fls bnd rec wth has by' wr hK ho)
      unfold stV at HST
      have HNX := hid (fun w' => KAll.next (w' := w') hK hbel)
      have hlt' : (i : Int) < (n : Int) := by omega
      clear hK hbel ho
      go_wp2_with (first
        | (refine wpList_load_mid rfl 41 (.tmp 29) rfl gs (off + i * 4) rfl _ _ hrg Try.underlying41 rfl sizeKSt ?_)
        | (go_at_call 12; refine Calls.mono HST.out ?_; rintro e w2 ⟨rfl, hp⟩; have HP := hid (HNX.out w2 hp); clear hp))
      go_roundw
      case rel => exact ⟨i + 1, by go_num, by omega, HP.out⟩
      case measure => first | (simp [intOf]; done) | (simp [intOf]; omega)
    · have hlt' : ¬ (i : Int) < (n : Int) := by omega
      have HA := hid hA
      clear hA
      go_wp2
      obtain ⟨w2, hw2⟩ : ∃ w2, w2 = wr := ⟨wr, rfl⟩
      rw [← hw2] at HA
      rw [← hw2]
      clear hw2
      go_loopw [12, 13] (fun iv _ wz => ∃ k : Nat, iv = .int .i64 k ∧ k ≤ 5 ∧ KAll W wz b x room g c fls) (fun iv _ _ => 5 - (intOf iv).toNat)
      case atStart => exact ⟨0, rfl, Nat.zero_le _, HA.out⟩
      case round =>
        obtain ⟨k, rfl, hk5, hA2⟩ := hrel
        obtain ⟨F, l, bnd, rec, wth, has, by', hK, hbel⟩ := hA2
        by_cases hk : k < 5
        · have HGT := hid (kget_any W.heap.size b x k room g c F l fls bnd rec wth has by' _ hK hk)
          have HNX := hid (fun w' => KAll.next (w' := w') hK hbel)
          have hk' : (k : Int) < 5 := by omega
          clear hK hbel
          go_wp2_with (first
            | (go_at_call 13; refine Calls.mono HGT.out ?_; rintro e w3 ⟨rfl, hp⟩; have HP := hid (HNX.out w3 hp); clear hp))
          go_roundw
          case rel => exact ⟨k + 1, by go_num, by omega, HP.out⟩
          case measure => first | (simp [intOf]; done) | (simp [intOf]; omega)
        · have hk' : ¬ (k : Int) < 5 := by omega
          go_wp2
          go_ret
          exact ⟨rfl, hbel⟩
end Go.Proofs.Ytnconbpneimjiaa

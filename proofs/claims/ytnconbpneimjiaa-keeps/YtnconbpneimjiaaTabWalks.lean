/-
  P4: the walks of the tally's methods.
-/
import Derived.Test.YtnconbpneimjiaaRows
import Derived.WalkKit
import Derived.WalkSpells
import Derived.Handy
import Derived.BigQuiet
import Derived.Deep.QuietTactic
import Derived.Deep.OwnRows
import Derived.Deep.LoopGhost
import Derived.Laws.BytesArg
import Derived.OwnWalk
import Derived.WalkSmall
import Derived.Test.YtnconbpneimjiaaPlain
namespace Go.Proofs.Ytnconbpneimjiaa
open Go.RowKit Go.PlainAid

theorem hid {p : Prop} (h : p) : Hid p := h

def tallyRow (tm sh : Nat → Int) (tot : Int) : Nat → Value := fun i => .int .i64 (tallyAt tm sh tot i)
/-- The tally lies in block b. -/
def Tal (w : World) (b : Nat) (tm sh : Nat → Int) (tot : Int) : Prop := w.rowIs b 91 513 (tallyRow tm sh tot)

theorem Tal.time {w : World} {b : Nat} {tm sh : Nat → Int} {tot : Int} (h : Tal w b tm sh tot) {v : Nat} (hv : v < 256) : w.cell? ⟨b, v, none⟩ = some (.int .i64 (tm v)) := by
  have := World.rowIs.cell h (i := v) (by omega)
  rw [this]; simp [tallyRow, tallyAt, hv]
theorem Tal.share {w : World} {b : Nat} {tm sh : Nat → Int} {tot : Int} (h : Tal w b tm sh tot) {v : Nat} (hv : v < 256) : w.cell? ⟨b, 256 + v, none⟩ = some (.int .i64 (sh v)) := by
  have := World.rowIs.cell h (i := 256 + v) (by omega)
  rw [this]; simp only [tallyRow, tallyAt]
  rw [if_neg (by omega), if_pos (by omega), show 256 + v - 256 = v from by omega]
theorem Tal.total {w : World} {b : Nat} {tm sh : Nat → Int} {tot : Int} (h : Tal w b tm sh tot) : w.cell? ⟨b, 512, none⟩ = some (.int .i64 tot) := by
  have := World.rowIs.cell h (i := 512) (by omega)
  rw [this]; simp [tallyRow, tallyAt]

theorem Tal.congr {w : World} {b : Nat} {tm sh tm' sh' : Nat → Int} {tot tot' : Int} (h : Tal w b tm sh tot) (h1 : ∀ v, v < 256 → tm v = tm' v) (h2 : ∀ v, v < 256 → sh v = sh' v) (h3 : tot = tot') : Tal w b tm' sh' tot' := by
  refine World.rowIs.congr h fun i hi => ?_
  simp only [tallyRow, tallyAt]
  by_cases c1 : i < 256
  · rw [if_pos c1, if_pos c1, h1 i c1]
  · rw [if_neg c1, if_neg c1]
    by_cases c2 : i < 512
    · rw [if_pos c2, if_pos c2, h2 (i - 256) (by omega)]
    · rw [if_neg c2, if_neg c2, h3]
theorem Tal.setTime {w : World} {b : Nat} {tm sh : Nat → Int} {tot : Int} (h : Tal w b tm sh tot) {v : Nat} (hv : v < 256) (x : Int) : Tal (w.setCell ⟨b, v, none⟩ (.int .i64 x)) b (upd tm v x) sh tot := by
  refine World.rowIs.congr (World.rowIs.set h v (.int .i64 x)) fun i hi => ?_
  simp only [tallyRow, tallyAt, upd]
  by_cases c : i = v
  · subst c; simp [hv]
  · simp [c]
theorem Tal.setShare {w : World} {b : Nat} {tm sh : Nat → Int} {tot : Int} (h : Tal w b tm sh tot) {v : Nat} (hv : v < 256) (x : Int) : Tal (w.setCell ⟨b, 256 + v, none⟩ (.int .i64 x)) b tm (upd sh v x) tot := by
  refine World.rowIs.congr (World.rowIs.set h (256 + v) (.int .i64 x)) fun i hi => ?_
  simp only [tallyRow, tallyAt, upd]
  by_cases c : i = 256 + v
  · subst c
    rw [if_pos rfl, if_neg (by omega), if_pos (by omega), if_pos (by omega)]
  · rw [if_neg c]
    by_cases c1 : i < 256
    · rw [if_pos c1, if_pos c1]
    · rw [if_neg c1, if_neg c1]
      by_cases c2 : i < 512
      · rw [if_pos c2, if_pos c2, if_neg (by omega)]
      · rw [if_neg c2, if_neg c2]
theorem Tal.setTotal {w : World} {b : Nat} {tm sh : Nat → Int} {tot : Int} (h : Tal w b tm sh tot) (x : Int) : Tal (w.setCell ⟨b, 512, none⟩ (.int .i64 x)) b tm sh x := by
  refine World.rowIs.congr (World.rowIs.set h 512 (.int .i64 x)) fun i hi => ?_
  simp only [tallyRow, tallyAt]
  by_cases c : i = 512
  · subst c; simp
  · rw [if_neg c]
    by_cases c1 : i < 256
    · rw [if_pos c1, if_pos c1]
    · rw [if_neg c1, if_neg c1, if_pos (by omega), if_pos (by omega)]
theorem Below.drewN {B : Nat} {a w : World} (h : Below B a w) (n : Nat) : Below B a (w.drewN n) := ⟨h.os, h.tape, h.output, h.size, h.block⟩
theorem Tal.drew {w : World} {b : Nat} {tm sh : Nat → Int} {tot : Int} (h : Tal w b tm sh tot) : Tal w.drew b tm sh tot := h

set_option maxRecDepth 100000 in
set_option maxHeartbeats 400000 in
theorem mf_any (b : Nat) (tm sh : Nat → Int) (tot : Int) (w : World) (hrow : Tal w b tm sh tot) :
    Calls Try.prog 56 #[.pointer (some ⟨b, 0, none⟩)] w fun e w' => e = .returned (.tuple #[.int .u8 (mf tm sh).1, .bool (decide (0 < (mf tm sh).2))]) ∧ w' = w := by
  go_enter Try.func56, Try.ntmps56
  go_wp2
  go_loop [4, 5, 6] (fun bst mst i => ∃ k : Nat, k ≤ 256 ∧ i = .int .i64 k ∧ bst = .int .u8 (mfTo tm sh k).1 ∧ mst = .int .i64 (mfTo tm sh k).2) (fun _ _ i => 256 - (intOf i).toNat)
  case atStart => exact ⟨0, Nat.zero_le _, rfl, rfl, rfl⟩
  case round =>
    obtain ⟨k, hk, rfl, rfl, rfl⟩ := hrel
    by_cases hlt : k < 256
    · have h1 := hrow.time hlt
      have h2 := hrow.share hlt
      go_wp2
      all_goals go_round
      case rel => exact ⟨k + 1, by omega, by go_num, by rw [mfTo_hit ‹_› ‹_›], by rw [mfTo_hit ‹_› ‹_›]⟩
      case measure => simp [intOf]; omega
      case rel => exact ⟨k + 1, by omega, by go_num, by rw [mfTo_miss ‹_› ‹_›], by rw [mfTo_miss ‹_› ‹_›]⟩
      case measure => simp [intOf]; omega
      case rel => exact ⟨k + 1, by omega, by go_num, by rw [mfTo_pass ‹_›], by rw [mfTo_pass ‹_›]⟩
      case measure => simp [intOf]; omega
    · go_wp2
      go_ret2
      obtain rfl : k = 256 := by omega
      exact ⟨rfl, rfl⟩

set_option maxRecDepth 100000 in
set_option maxHeartbeats 400000 in
theorem count_any (b : Nat) (s : ByteArray) (sh : Nat → Int) (tot : Int) (w : World) (hs : s.size ≤ maxLen) (hrow : Tal w b (fun _ => 0) sh tot) :
    Calls Try.prog 42 #[.pointer (some ⟨b, 0, none⟩), .string s] w fun e w' => e = .returned (.tuple #[]) ∧ Tal w' b (cntTo s s.size) sh tot ∧ Below b w w' := by
  unfold maxLen at hs
  have hb := get_bt s
  go_enter Try.func42, Try.ntmps42
  go_wp2
  go_loopw [4] (fun i wr => ∃ k : Nat, k ≤ s.size ∧ i = .int .i64 k ∧ Tal wr b (cntTo s k) sh tot ∧ Below b w wr) (fun i _ => s.size - (intOf i).toNat)
  case atStart => exact ⟨0, Nat.zero_le _, rfl, hrow, Below.refl _ _⟩
  case round =>
    obtain ⟨k, hk, rfl, ht, hbel⟩ := hrel
    have b0 := bt_nonneg s k
    have b1 := bt_le s k
    have hc := cntTo_bd s k (bt s k).toNat
    have h1 := ht.time (v := (bt s k).toNat) (by omega)
    have f1 := World.rowIs.frozen ht (bt s k).toNat
    by_cases hlt : k < s.size
    · go_wp2
      go_region
      go_wp2
      go_roundw
      case rel =>
        refine ⟨k + 1, by omega, by go_num, ?_, (hbel.setCell (Nat.le_refl _) _).drew⟩
        refine Tal.drew ((ht.setTime (v := (bt s k).toNat) (by omega) _).congr (fun v _ => cntTo_upd s k v) (fun _ _ => rfl) rfl)
      case measure => simp [intOf]; omega
    · go_wp2
      go_end0
      obtain rfl : k = s.size := by omega
      exact ⟨rfl, ht, hbel⟩

set_option maxRecDepth 100000 in
set_option maxHeartbeats 400000 in
theorem nd_any (b : Nat) (tm sh : Nat → Int) (tot : Int) (w : World) (hrow : Tal w b tm sh tot) (ht : ∀ v, 0 ≤ tm v ∧ tm v ≤ 800) (hs : ∀ v, 0 ≤ sh v ∧ sh v ≤ 64) :
    Calls Try.prog 57 #[.pointer (some ⟨b, 0, none⟩)] w fun e w' => e = .returned (.tuple #[.int .u8 (nd tm sh).1, .bool (nd tm sh).2]) ∧ ∃ n, w' = w.drewN n := by
  go_enter Try.func57, Try.ntmps57
  go_wp2
  go_loopw [4, 5, 6] (fun bst fnd i wr => ∃ k n : Nat, k ≤ 256 ∧ wr = w.drewN n ∧ i = .int .i64 k ∧ bst = .int .u8 (ndTo tm sh k).1 ∧ fnd = .bool (ndTo tm sh k).2) (fun _ _ i _ => 256 - (intOf i).toNat)
  case atStart => exact ⟨0, 0, Nat.zero_le _, rfl, rfl, rfl, rfl⟩
  case round =>
    obtain ⟨k, n, hk, rfl, rfl, rfl, rfl⟩ := hrel
    by_cases hlt : k < 256
    · have hbs := ndTo_lt tm sh k hlt
      have e1 := ndTo_step tm sh k
      have HS := hid (e1); clear e1
      generalize ndTo tm sh k = bs at *
      obtain ⟨bst, fnd⟩ := bs
      simp only at hbs HS ⊢
      have h1 := hrow.time hlt
      have h2 := hrow.share hlt
      have h3 := hrow.time hbs
      have h4 := hrow.share hbs
      have t1 := ht k
      have t2 := ht bst
      have t3 := hs k
      have t4 := hs bst
      have m1 := mul_bd t1 t4
      have m2 := mul_bd t2 t3
      by_cases hz : sh k = 0
      · have hz' : (sh k == 0) = true := by simp [hz]
        go_wp2
        go_roundw
        case rel => exact ⟨k + 1, n, by omega, rfl, by go_num, by rw [HS.out, if_pos hz], by rw [HS.out, if_pos hz]⟩
        case measure => simp [intOf]; omega
      · have hz' : (sh k == 0) = false := by simp [hz]
        cases fnd
        · go_wp2_with fail
          go_quiet (fail)
          go_wp2
          go_roundw
          case rel => exact ⟨k + 1, n + nq, by omega, rfl, by go_num, by rw [HS.out, if_neg hz]; simp, by rw [HS.out, if_neg hz]; simp⟩
          case measure => simp [intOf]; omega
        · go_wp2_with fail
          go_quiet (fail)
          go_wp2
          all_goals go_roundw
          case rel =>
            have hh : tm bst * sh k < tm k * sh bst := by assumption
            exact ⟨k + 1, n + nq, by omega, rfl, by go_num, by rw [HS.out, if_neg hz, if_pos (Or.inr hh)], by rw [HS.out, if_neg hz, if_pos (Or.inr hh)]⟩
          case measure => simp [intOf]; omega
          case rel =>
            have hh : tm k * sh bst ≤ tm bst * sh k := by assumption
            have hh2 : ¬ (true = false ∨ tm bst * sh k < tm k * sh bst) := by simp; omega
            exact ⟨k + 1, n + nq, by omega, rfl, by go_num, by rw [HS.out, if_neg hz, if_neg hh2], by rw [HS.out, if_neg hz, if_neg hh2]⟩
          case measure => simp [intOf]; omega
    · go_wp2
      go_ret2
      obtain rfl : k = 256 := by omega
      exact ⟨rfl, n, rfl⟩

set_option maxRecDepth 100000 in
set_option maxHeartbeats 400000 in
theorem admit_any (b : Nat) (tm : Nat → Int) (w : World) (hrow : Tal w b tm (fun _ => 0) 0) :
    Calls Try.prog 43 #[.pointer (some ⟨b, 0, none⟩)] w fun e w' => e = .returned (.tuple #[]) ∧ Tal w' b tm (admTo tm 32) (admN tm 32) ∧ Below b w w' := by
  go_enter Try.func43, Try.ntmps43
  go_wp2
  go_loopw [2] (fun i wr => ∃ k : Nat, k ≤ 32 ∧ i = .int .i64 k ∧ Tal wr b tm (admTo tm k) (admN tm k) ∧ Below b w wr) (fun i _ => 32 - (intOf i).toNat)
  case atStart => exact ⟨0, Nat.zero_le _, rfl, hrow, Below.refl _ _⟩
  case round =>
    obtain ⟨k, hk, rfl, ht, hbel⟩ := hrel
    by_cases hlt : k < 32
    · have hN := admN_bd tm k
      have hi := mf_lt tm (admTo tm k)
      have h1 := ht.share hi
      have f1 := World.rowIs.frozen ht (256 + (mf tm (admTo tm k)).1)
      have h2 := ht.total
      have f2 := World.rowIs.frozen ht 512
      have hcall := mf_any b tm (admTo tm k) (admN tm k) wr ht
      by_cases hf : 0 < (mf tm (admTo tm k)).2
      · have E1 := hid (admTo_hit tm k hf)
        have E2 := hid (admN_hit tm k hf)
        have hd : decide (0 < (mf tm (admTo tm k)).2) = true := by simp [hf]
        rw [hd] at hcall
        clear hf hd
        generalize (mf tm (admTo tm k)).1 = r at *
        have hC := hid (hcall)
        clear hcall
        go_wp2_with (go_at_call 56; refine Calls.mono hC.out ?_; rintro e w' ⟨rfl, rfl⟩)
        go_roundw
        case rel =>
          refine ⟨k + 1, by omega, by go_num, ?_, (hbel.setCell (Nat.le_refl _) _).setCell (Nat.le_refl _) _⟩
          rw [E1.out, E2.out]
          exact (ht.setShare hi _).setTotal _
        case measure => simp [intOf]; omega
      · have E1 := hid (admTo_stop tm k hf 32 (by omega))
        have hd : decide (0 < (mf tm (admTo tm k)).2) = false := by simp at hf; simp [hf]
        rw [hd] at hcall
        clear hf hd
        generalize (mf tm (admTo tm k)).1 = r at *
        have hC := hid (hcall)
        clear hcall
        go_wp2_with (go_at_call 56; refine Calls.mono hC.out ?_; rintro e w' ⟨rfl, rfl⟩)
        go_returns
        rw [E1.out.1, E1.out.2]
        exact ⟨rfl, ht, hbel⟩
    · go_wp2
      go_end0
      obtain rfl : k = 32 := by omega
      exact ⟨rfl, ht, hbel⟩

set_option maxRecDepth 100000 in
set_option maxHeartbeats 400000 in
theorem fill_any (b : Nat) (tm sh : Nat → Int) (m : Nat) (w : World) (hrow : Tal w b tm sh m) (hm : m ≤ 64) (ht : ∀ v, 0 ≤ tm v ∧ tm v ≤ 800) (hs : ∀ n v, n ≤ 64 - m → 0 ≤ fillTo tm sh n v ∧ fillTo tm sh n v ≤ 64) (hnd : ∀ n, n < 64 - m → (nd tm (fillTo tm sh n)).2 = true) :
    Calls Try.prog 44 #[.pointer (some ⟨b, 0, none⟩)] w fun e w' => e = .returned (.tuple #[]) ∧ Tal w' b tm (fillTo tm sh (64 - m)) 64 ∧ Below b w w' := by
  go_enter Try.func44, Try.ntmps44
  go_wp2
  go_loopg [2, 3] (64 - m) (fun gk _ _ wr => ∃ n : Nat, n + gk = 64 - m ∧ Tal wr b tm (fillTo tm sh n) ((m : Int) + n) ∧ Below b w wr)
  case atStart => exact ⟨0, by omega, by simpa [fillTo] using hrow, Below.refl _ _⟩
  case round =>
    obtain ⟨n, hn, ht2, hbel⟩ := hrel
    have h2 := ht2.total
    have f2 := World.rowIs.frozen ht2 512
    by_cases hlt : n < 64 - m
    · have hi := nd_lt tm (fillTo tm sh n)
      have h1 := ht2.share hi
      have f1 := World.rowIs.frozen ht2 (256 + (nd tm (fillTo tm sh n)).1)
      have hv := hs n (nd tm (fillTo tm sh n)).1 (by omega)
      have hcall := nd_any b tm (fillTo tm sh n) _ wr ht2 ht (fun v => hs n v (by omega))
      rw [hnd n hlt] at hcall
      have E1 := hid (fillTo_step tm sh n)
      have HN := hid (hnd)
      have HT := hid (ht)
      have HS := hid (hs)
      clear hnd ht hs
      generalize (nd tm (fillTo tm sh n)).1 = r at *
      have hC := hid (hcall)
      clear hcall
      go_wp2_with (go_at_call 57; refine Calls.mono hC.out ?_; rintro e w' ⟨rfl, nq, rfl⟩)
      go_region
      go_wp2
      go_roundg (64 - m - (n + 1))
      case measure => omega
      case rel =>
        refine ⟨n + 1, by omega, ?_, ?_⟩
        · rw [E1.out]
          exact ((Tal.setShare (w := wr.drewN (nq + 1)) ht2 hi _).setTotal _).congr (fun _ _ => rfl) (fun _ _ => rfl) (by omega)
        · exact ((Below.drewN hbel _).setCell (Nat.le_refl _) _).setCell (Nat.le_refl _) _
    · go_wp2
      go_end0
      have e : n = 64 - m := by omega
      subst e
      exact ⟨rfl, ht2.congr (fun _ _ => rfl) (fun _ _ => rfl) (by omega), hbel⟩

theorem Try.infoU8 : (Try.prog.info? 5).map (fun i => (i.zero, i.size, i.bytes)) = some (some (.int .u8 0), 1, 1) := by kernel_rfl

/-- The block that an owned slice lies in. -/
theorem own_base {w : World} {base e size : Nat} {v : Value} {n : Nat} {xs : List Value} (h : w.ownsRow base e size v n xs) : ∀ k, v.ownBlock = some k → base ≤ k := by
  intro k hk
  rcases h.2 with ⟨rfl, _⟩ | ⟨g, cap, cur, rfl, hg, _⟩
  · simp [Value.ownBlock] at hk
  · simp [Value.ownBlock] at hk; omega

/-- 'string(out)', out a row of bytes that the call itself made. -/
theorem conv_own {P : Program} {w : World} {base src e dst : TypeId} {v : Value} {n : Nat} {xs : List Int} (hs : P.underlying src = some (.slice e)) (he : P.underlying e = some (.int .u8)) (hd : P.underlying dst = some .string)
    (h : w.ownsRow base e 1 v n (xs.map (Value.int .u8))) : (convert src dst v).run P w = .ok (.string (strOfNums xs)) w := by
  have hl : xs.length = n := by have := h.1; simpa using this
  rcases h.2 with ⟨rfl, hn⟩ | ⟨g, cap, cur, rfl, _, _, hc, _⟩
  · have : xs = [] := List.eq_nil_of_length_eq_zero (by omega)
    subst this
    exact run_convert_bytes_nil w src e hs he 0 0 dst hd
  · refine run_convert_bytes_arg w src e hs he g 0 n cap xs hl (fun i hi => ?_) dst hd
    rw [Nat.zero_add, World.ownsRow.cellAt h i (by omega)]
    simp [List.getElem?_eq_getElem (show i < xs.length by omega)]

set_option maxRecDepth 100000 in
set_option maxHeartbeats 400000 in
theorem table_any (b : Nat) (tm sh : Nat → Int) (tot : Int) (w : World) (hrow : Tal w b tm sh tot) (hs : ∀ v, 0 ≤ sh v ∧ sh v ≤ 64) :
    Calls Try.prog 45 #[.pointer (some ⟨b, 0, none⟩)] w fun e w' => e = .returned (.string (strOfNums (outTo sh 256))) ∧ Below (b + 1) w w' := by
  obtain ⟨i0, hi, hz0, hz1, hz2⟩ := info_parts Try.infoU8
  have hbs : b < w.heap.size := World.rowIs.lt hrow
  go_enter Try.func45, Try.ntmps45
  go_wp2
  go_loopw [3, 4] (fun v i wr => ∃ k : Nat, k ≤ 256 ∧ i = .int .i64 k ∧ wr.ownsRow (b + 1) 5 1 v (outTo sh k).length ((outTo sh k).map (Value.int .u8)) ∧ Below (b + 1) w wr) (fun _ i _ => 256 - (intOf i).toNat)
  case atStart => exact ⟨0, Nat.zero_le _, rfl, World.ownsRow_nil _ _ _ _, Below.refl _ _⟩
  case round =>
    obtain ⟨k, hk, rfl, hown, hbel⟩ := hrel
    have hsz := hbel.size
    by_cases hlt : k < 256
    · have hc : wr.cell? ⟨b, 256 + k, none⟩ = some (.int .i64 (sh k)) := (hbel.cell (p := ⟨b, 256 + k, none⟩) (Nat.lt_succ_self b)).trans (hrow.share hlt)
      have hsk := hs k
      have hol := outTo_len sh k
      have HO := hid (outTo_step sh k)
      generalize outTo sh k = os at *
      by_cases hp : 0 < sh k
      · go_wp2_with (at_builtin; refine wpList_append_own _ rfl (.tmp 16) (.tmp 26) 29 rfl (b + 1) 5 i0 (.int .u8 0) 1 1 Try.underlying29 hi hz0 hz1 hz2 rfl (by decide) _ _ _ rfl (hown.alloc _) ⟨wr.heap.size, 0, none⟩ 2 2 [.int .u8 k, .int .u8 (sh k)] rfl rfl (cell_two_new _ _ _ _) (by intro u hu; simp at hu; rcases hu with rfl | rfl <;> rfl) (by unfold maxLen; omega) (by omega) (by simp; omega) ?_; intro v' w1 hown' hgrow _)
        go_roundw
        case rel =>
          rw [if_pos hp] at HO
          refine ⟨k + 1, by omega, by go_num, ?_, ?_⟩
          · rw [HO.out]; simpa using hown'
          · exact (hbel.alloc (by omega) _).grown hgrow (by simp; omega) (own_base hown)
        case measure => simp [intOf]; omega
      · go_wp2
        go_roundw
        case rel =>
          rw [if_neg hp] at HO
          refine ⟨k + 1, by omega, by go_num, ?_, hbel⟩
          rw [HO.out]; simpa using hown
        case measure => simp [intOf]; omega
    · have HK : Hid (k = 256) := Nat.le_antisymm hk (Nat.le_of_not_lt hlt)
      have hconv := conv_own (P := Try.prog) (dst := 9) Try.underlying29 Try.underlying5 Try.underlying9 hown
      go_wp2
      go_ret
      exact ⟨congrArg (fun l => Ending.returned (.string (strOfNums (outTo sh l)))) HK.out, hbel⟩
end Go.Proofs.Ytnconbpneimjiaa

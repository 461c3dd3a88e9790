/-
  P4 to P6: the law Back.
-/
import Derived.Test.YtopegpilfoajhaaBackMath
import Derived.Test.YtopegpilfoajhaaTabLearn
import Derived.Test.YtopegpilfoajhaaRefSqz
namespace Go.Proofs.Ytopegpilfoajhaa
open Go.RowKit Go.PlainAid

set_option maxRecDepth 100000 in
theorem some_any (s : ByteArray) (w : World) (hs : s.size ≤ maxLen) :
    Calls Try.prog 24 #[.string s, .int .i64 800] w fun e w' => ∃ x : ByteArray, e = .returned (.string x) ∧ 0 < x.size ∧ x.size ≤ 800 ∧ w' = w := by
  unfold maxLen at hs
  by_cases h0 : s.size = 0
  · have h0' : ((s.size : Int) == 0) = true := beq_iff_eq.2 (by omega)
    clear h0
    go_enter Try.func24, Try.ntmps24
    go_wp2
    go_ret
    exact ⟨_, rfl, by decide +kernel, by decide +kernel, rfl⟩
  · have h0' : ((s.size : Int) == 0) = false := beq_eq_false_iff_ne.2 (by omega)
    by_cases h8 : 800 < s.size
    · have h8' : (800 : Int) < (s.size : Int) := by omega
      go_enter Try.func24, Try.ntmps24
      go_wp2
      go_ret
      refine ⟨_, rfl, ?_, ?_, rfl⟩
      · simp; omega
      · simp; omega
    · have h8' : ¬ (800 : Int) < (s.size : Int) := by omega
      go_enter Try.func24, Try.ntmps24
      go_wp2
      go_ret
      exact ⟨_, rfl, by omega, by omega, rfl⟩

set_option maxRecDepth 100000 in
theorem pick_any (c L : Nat) (n : Int) (w : World) (hc : c < 256) (hL : 1 ≤ L) (hL2 : L ≤ 1000) (hn : n = (L : Int)) :
    Calls Try.prog 25 #[.int .i64 c, .int .i64 n] w fun e w' => e = .returned (.int .i64 ((c % L : Nat) : Int)) ∧ w' = w := by
  subst hn
  have hm : c % L < L := Nat.mod_lt _ hL
  have hcast : (c : Int) % (L : Int) = ((c % L : Nat) : Int) := (Int.natCast_emod c L).symm
  have HC := hid hcast
  have h1 : (0 : Int) ≤ (c : Int) % (L : Int) := by rw [hcast]; omega
  have h2 : (c : Int) % (L : Int) < 1000 := by rw [hcast]; omega
  have hz : ((L : Int) == 0) = false := beq_eq_false_iff_ne.2 (by omega)
  clear hcast
  go_enter Try.func25, Try.ntmps25
  go_wp2
  go_ret
  exact ⟨ret_int' HC.out, rfl⟩

theorem own_slice {w : World} {base e : Nat} {v : Value} {n : Nat} {xs : List Value} (h : w.ownsRow base e 1 v n xs) : ∃ ao cap, v = .slice ao n cap := by
  rcases h.2 with ⟨rfl, rfl⟩ | ⟨g, cap, cur, rfl, _⟩
  · exact ⟨none, 0, rfl⟩
  · exact ⟨_, cap, rfl⟩

set_option maxRecDepth 100000 in
set_option maxHeartbeats 1600000 in
theorem back_law (a s : ByteArray) (w : World) (ha : a.size ≤ maxLen) (hs : s.size ≤ maxLen) :
    Calls Try.prog 7 #[.string a, .string s] w fun e w' => e = .returned (.bool true) ∧ Below w.heap.size w w' := by
  obtain ⟨i0, hi, hz0, hz1, hz2⟩ := info_parts Try.infoU8
  unfold maxLen at hs
  have hb := get_btn s
  have H0 := hid (some_any a w ha)
  go_enter Try.func7, Try.ntmps7
  go_wp2_with fail
  refine Calls.mono H0.out ?_
  rintro e w0 ⟨x, rfl, hx0, hx8, hw0⟩
  rw [hw0]
  clear hw0 w0 H0
  have H1 := hid (table_mid x w hx0 hx8)
  have hT := (tab_of x hx0).isT
  have hTs := (tab_of x hx0).txt.1
  have hTp := mem_pos x hx0
  have hTl : (strOfNums (outTo (endSh (cntTo x x.size)) 256)).size ≤ 128 := by
    obtain ⟨_, hg, ht⟩ := isTB_yes hT
    have := totS_ge hg
    omega
  have hT2 : 2 ≤ (strOfNums (outTo (endSh (cntTo x x.size)) 256)).size := by omega
  have hTe : (strOfNums (outTo (endSh (cntTo x x.size)) 256)).size % 2 = 0 := by omega
  clear hTs hTp
  generalize strOfNums (outTo (endSh (cntTo x x.size)) 256) = T at *
  have HT := hid hT
  clear hT
  have hbt := get_btn T
  obtain ⟨L, hL⟩ : ∃ L, L = T.size / 2 := ⟨_, rfl⟩
  have hL1 : 1 ≤ L := by omega
  have hL2 : L ≤ 64 := by omega
  have hLT : 2 * L = T.size := by omega
  have HL := hid hL
  clear hL
  have ht1 : decide ((T.size : Int) < 2) = false := by simp; omega
  have ht2 : ((T.size : Int) % 2 != 0) = false := by simp; omega
  have ht3 : ((0 : Int) != 0) = false := rfl
  go_wp2_with fail
  refine Calls.mono H1.out ?_
  rintro e w1 ⟨rfl, b1⟩
  clear H1
  have hs1 := b1.size
  obtain ⟨m, hm⟩ : ∃ m, m = min s.size 500 := ⟨_, rfl⟩
  have hm1 : m ≤ s.size := by omega
  have hm2 : m ≤ 500 := by omega
  have hm3 : m = s.size ∨ m = 500 := by omega
  have HM3 := hid hm3
  clear hm hm3
  go_wp2_with fail
  go_loopw [7, 8] (fun v i wr => ∃ k : Nat, k ≤ m ∧ i = .int .i64 k ∧ wr.ownsRow w1.heap.size 5 1 v k ((ints (pickTo T s k)).map (Value.int .u8)) ∧ Below w1.heap.size w1 wr) (fun _ i _ => m - (intOf i).toNat)
  case atStart => exact ⟨0, Nat.zero_le _, rfl, World.ownsRow_nil _ _ _ _, Below.refl _ _⟩
  case round =>
    obtain ⟨k, hk, rfl, hown, hbel⟩ := hrel
    have hsz := hbel.size
    by_cases hlt : k < m
    · have c1 : (k : Int) < (s.size : Int) := by omega
      have c2 : (k : Int) < 500 := by omega
      have hks : k < s.size := by omega
      have hbk := btn_lt s k
      have hcp := hid (pick_any (btn s k) L ((T.size : Int) / 2) wr hbk hL1 (by omega) (by omega))
      have HPK := hid (show pickTo T s (k + 1) = pickTo T s k ++ [btn T (2 * (btn s k % L))] from by rw [HL.out]; rfl)
      have hp : btn s k % L < L := Nat.mod_lt _ hL1
      generalize btn s k % L = p at *
      have hpi : 2 * p < T.size := by omega
      have hbp := btn_lt T (2 * p)
      go_wp2_with (first
        | (go_at_call 25; refine Calls.mono hcp.out ?_; rintro e w' ⟨rfl, hw'⟩; rw [hw']; clear hw' w')
        | (at_builtin; refine wpList_append_own _ rfl (.tmp 42) (.tmp 54) 37 rfl w1.heap.size 5 i0 (.int .u8 0) 1 1 Try.underlying37 hi hz0 hz1 hz2 rfl (by decide) _ _ _ rfl (hown.alloc _) ⟨_, 0, none⟩ 1 1 [.int .u8 (btn T (2 * p) : Int)] rfl rfl (cell_one_new _ _ _) (by intro u hu; simp at hu; subst hu; rfl) (by unfold maxLen; omega) (by omega) (by simp; omega) ?_; intro v' w4 hown' hgrow _))
      go_roundw
      case rel =>
        have hown4 : w4.ownsRow w1.heap.size 5 1 v' (k + 1) ((ints (pickTo T s (k + 1))).map (Value.int .u8)) := by
          rw [HPK.out]; simpa [ints] using hown'
        have bel4 := (hbel.alloc hsz _).grown hgrow (by simp; omega) (own_base hown)
        first
          | exact ⟨k + 1, by omega, by go_num, hown4, bel4⟩
          | ((repeat apply Exists.intro); exact ⟨⟨k + 1, by omega, by go_num, hown4, bel4⟩, rfl⟩)
      case measure => simp [intOf]; omega
    · have HK := hid (show k = m from by omega)
      obtain ⟨ao, cap, hv⟩ := own_slice hown
      rw [hv] at hown ⊢
      clear hv
      have hall := pick_allSh (s := s) HT.out (by rw [← HL.out]; exact hL1) k
      have hxs : (strN (pickTo T s k)).size = k := by rw [strN_size, pickTo_len]
      obtain ⟨q1, q2, q3, q4⟩ := back_math HT.out hall (by omega)
      rw [hxs] at q3 q4
      have hTm : T.size ≤ maxLen := by unfold maxLen; omega
      have HS1 := hid (squeeze_any T (strN (pickTo T s k)) wr hTm (by unfold maxLen; omega))
      rw [q1] at HS1
      have hsm : (strN (packL (encB T (strN (pickTo T s k))))).size ≤ maxLen := by unfold maxLen; omega
      have HU := hid (fun w => unsqueeze_any T (strN (packL (encB T (strN (pickTo T s k))))) (k : Int) w hTm hsm)
      rw [q4] at HU
      have hconv : Sem.run Try.prog (convert 37 9 _) wr = .ok (.string (strN (pickTo T s k))) wr := conv_own (P := Try.prog) (dst := 9) Try.underlying37 Try.underlying5 Try.underlying9 hown
      have HC6 := hid (fun w' (hb : Below wr.heap.size wr w') => show Sem.run Try.prog (convert 37 9 _) w' = .ok (.string (strN (pickTo T s k))) w' from conv_own (P := Try.prog) (dst := 9) Try.underlying37 Try.underlying5 Try.underlying9 (own_below hown hb))
      have r1 : decide (((strN (packL (encB T (strN (pickTo T s k))))).size : Int) < 1) = false := by simp; omega
      have r2 : decide (6 * (k : Int) + 14 < 8 * ((strN (packL (encB T (strN (pickTo T s k))))).size : Int)) = false := by simp; omega
      have hk5 : (k : Int) ≤ 500 := by omega
      have hst : ((strN (packL (encB T (strN (pickTo T s k))))).size : Int) ≤ 1000 := by omega
      have hend : s.size ≤ k ∨ (k < s.size ∧ (500 : Int) ≤ (k : Int)) := by
        have := HM3.out
        have := HK.out
        omega
      have hb4 : Below w.heap.size w wr := b1.trans (hbel.mono hs1)
      clear hown hall q1 q2 q3 q4 hTm hsm hxs hm1 hm2
      generalize strN (packL (encB T (strN (pickTo T s k)))) = S at *
      generalize strN (pickTo T s k) = X at *
      rcases hend with h1 | ⟨h1, h2⟩
      all_goals
        go_wp2_with (first
          | (go_at_call 20; refine Calls.mono HS1.out ?_; rintro e w3 ⟨rfl, b3⟩)
          | (go_at_call 22; refine Calls.mono (HU.out _) ?_; rintro e w5 ⟨rfl, b5⟩; have hconv6 := HC6.out w5 (b3.trans (b5.mono b3.size))))
      all_goals
        go_ret
        refine ⟨?_, (hb4.trans (b3.mono hb4.size)).trans (b5.mono (Nat.le_trans hb4.size b3.size))⟩
        simp
end Go.Proofs.Ytopegpilfoajhaa

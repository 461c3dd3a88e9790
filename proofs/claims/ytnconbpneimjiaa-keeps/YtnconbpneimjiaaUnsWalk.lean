/-
  P6: the walks of countBits, bitAt, Read.
  P6: the walk of Read.
  P6: the walk of Unsqueeze.
-/
import Derived.Test.YtnconbpneimjiaaSqzWalk
import Derived.Test.YtnconbpneimjiaaPlain
namespace Go.Proofs.Ytnconbpneimjiaa
open Go.RowKit Go.PlainAid

/-! ### P6: the walks of countBits, bitAt, Read. -/
theorem ret_int2 {k : IntKind} {a b : Int} (h : a = b) : Ending.returned (.int k a) = .returned (.int k b) := by rw [h]
theorem tzF_even {f q : Nat} (h : q % 2 = 0) : tzF (f + 1) q = tzF f (q / 2) + 1 := by rw [tzF, if_pos h]
theorem tzF_odd {f q : Nat} (h : q % 2 ≠ 0) : tzF f q = 0 := by
  cases f with
  | zero => rfl
  | succ f => rw [tzF, if_neg h]

set_option maxRecDepth 100000 in
set_option maxHeartbeats 400000 in
theorem countBits_any (s : ByteArray) (w : World) (hs : s.size ≤ 1000) :
    Calls Try.prog 83 #[.string s] w fun e w' => e = .returned (.int .i64 ((endS s : Int) - 1)) ∧ w' = w := by
  have hb := get_btn s
  by_cases h0 : s.size = 0
  · have h0' : ((s.size : Int) == 0) = true := beq_iff_eq.2 (by omega)
    have HE := hid (show endS s = 0 from by unfold endS; rw [if_pos (Or.inl h0)])
    clear h0
    go_enter Try.func83, Try.ntmps83
    go_wp2
    go_ret
    exact ⟨ret_int2 (by rw [HE.out]; rfl), rfl⟩
  · have h0' : ((s.size : Int) == 0) = false := beq_eq_false_iff_ne.2 (by omega)
    have hidx : s.size - 1 < s.size := by omega
    have b1 := btn_lt s (s.size - 1)
    by_cases hz : btn s (s.size - 1) = 0
    · have hz' : ((btn s (s.size - 1) : Int) == 0) = true := beq_iff_eq.2 (by omega)
      have HE := hid (show endS s = 0 from by unfold endS; rw [if_pos (Or.inr hz)])
      clear hz
      go_enter Try.func83, Try.ntmps83
      go_wp2
      go_ret
      exact ⟨ret_int2 (by rw [HE.out]; rfl), rfl⟩
    · have hz' : ((btn s (s.size - 1) : Int) == 0) = false := beq_eq_false_iff_ne.2 (by omega)
      have HE := hid (show endS s = 8 * s.size - tzF 8 (btn s (s.size - 1)) from by unfold endS; rw [if_neg (by omega)])
      clear hz
      go_enter Try.func83, Try.ntmps83
      go_wp2
      go_loop [3, 4, 5] (fun l bts i => ∃ j q f : Nat, f + j = 8 ∧ q < 256 ∧ tzF 8 (btn s (s.size - 1)) = tzF f q + j ∧ l = .int .i64 q ∧ bts = .int .i64 (8 * (s.size : Int) - 1 - (j : Int)) ∧ i = .int .i64 j) (fun _ _ i => 8 - (intOf i).toNat)
      case atStart => exact ⟨0, btn s (s.size - 1), 8, rfl, b1, rfl, rfl, by simp, rfl⟩
      case round =>
        obtain ⟨j, q, f, hfj, hq, htz, rfl, rfl, rfl⟩ := hrel
        have HTZ := hid htz
        clear htz
        by_cases hj : j < 8
        · by_cases he : q % 2 = 0
          · have he' : ((q : Int) % 2 == 0) = true := beq_iff_eq.2 (by omega)
            have HEV := hid he
            clear he
            go_wp2
            go_round
            case rel =>
              cases f with
              | zero => omega
              | succ f => exact ⟨j + 1, q / 2, f, by omega, by omega, by rw [HTZ.out, tzF_even HEV.out]; omega, by go_num, by go_num, by go_num⟩
            case measure => simp [intOf]; omega
          · have he' : ((q : Int) % 2 == 0) = false := beq_eq_false_iff_ne.2 (by omega)
            have HR := hid (show 8 * (s.size : Int) - 1 - (j : Int) = (endS s : Int) - 1 from by
              have e1 := HE.out
              rw [HTZ.out, tzF_odd he] at e1
              omega)
            clear he
            go_wp2
            go_ret
            exact ⟨ret_int2 HR.out, rfl⟩
        · have HR := hid (show 8 * (s.size : Int) - 1 - (j : Int) = (endS s : Int) - 1 from by
            have e1 := HE.out
            have : f = 0 := by omega
            rw [HTZ.out, this, tzF] at e1
            omega)
          go_wp2
          go_ret
          exact ⟨ret_int2 HR.out, rfl⟩

set_option maxRecDepth 100000 in
set_option maxHeartbeats 400000 in
theorem bitAt_any (s : ByteArray) (a : Nat) (w : World) (hs : s.size ≤ 1000) (ha : a ≤ 100000) :
    Calls Try.prog 84 #[.string s, .int .i64 a] w fun e w' => e = .returned (.int .i64 (bitF s a : Int)) ∧ w' = w := by
  have hb := get_btn s
  have c1 : decide ((a : Int) < 0) = false := by simp
  by_cases h0 : s.size ≤ a / 8
  · have HB := hid (show bitF s a = 0 from by
      unfold bitF btn
      rw [bt_end s h0]
      simp)
    have c2 : (s.size : Int) ≤ (a : Int) / 8 := by omega
    go_enter Try.func84, Try.ntmps84
    go_wp2
    go_ret
    exact ⟨ret_int2 (by rw [HB.out]; rfl), rfl⟩
  · have c2 : decide ((s.size : Int) ≤ (a : Int) / 8) = false := by simp; omega
    have hidx : a / 8 < s.size := by omega
    have b1 := btn_lt s (a / 8)
    have HB := hid (show bitF s a = btn s (a / 8) / 2 ^ (7 - a % 8) % 2 from rfl)
    have hm : a % 8 < 8 := by omega
    go_enter Try.func84, Try.ntmps84
    go_wp2
    go_loop [5, 6] (fun p i => ∃ j q : Nat, j ≤ 7 - a % 8 ∧ q < 256 ∧ q = btn s (a / 8) / 2 ^ j ∧ p = .int .i64 q ∧ i = .int .i64 ((a % 8 + j : Nat) : Int)) (fun _ i => 8 - (intOf i).toNat)
    case atStart => exact ⟨0, btn s (a / 8), Nat.zero_le _, b1, by simp, rfl, by simp⟩
    case round =>
      obtain ⟨j, q, hj, hq, hqe, rfl, rfl⟩ := hrel
      have HQ := hid hqe
      clear hqe
      by_cases hj2 : a % 8 + j < 7
      · go_wp2
        go_round
        case rel => exact ⟨j + 1, q / 2, by omega, by omega, by rw [HQ.out, Nat.pow_succ, Nat.div_div_eq_div_mul], by go_num, by go_num⟩
        case measure => simp [intOf]; omega
      · have HJ := hid (show j = 7 - a % 8 from by omega)
        go_wp2
        go_ret
        exact ⟨ret_int2 (by rw [HB.out, ← HJ.out, ← HQ.out]; omega), rfl⟩

/-! ### P6: the walk of Read. -/
set_option maxRecDepth 100000 in
set_option maxHeartbeats 1600000 in
theorem read_any (t s : ByteArray) (n b : Nat) (w : World) (h : Lyt w b (tOwn t) (tNum t) (tShr t)) (ht : TOk t) (hs : s.size ≤ 1000) (hn : n ≤ 20000) :
    Calls Try.prog 76 #[.pointer (some ⟨b, 0, none⟩), .string s, .int .i64 n] w fun e w' => e = .returned (.tuple #[.string (rd t s n).1, .bool (rd t s n).2]) ∧ Below w.heap.size w w' := by
  obtain ⟨i0, hi, hz0, hz1, hz2⟩ := info_parts Try.infoU8
  have hbs : b < w.heap.size := World.rowIs.lt h
  have HT := hid ht
  have hE := endS_le s
  have hcb := hid (countBits_any s w hs)
  have HBA := hid (fun a w ha => bitAt_any s a w hs ha)
  have HBL := hid (bitF_lt s)
  clear ht
  by_cases hshort : endS s < 7
  · have HA := hid (rd_no (t := t) (n := n) (rdOk_short hshort))
    have hd : (endS s : Int) - 1 < 6 := by omega
    go_enter Try.func76, Try.ntmps76
    go_wp2_with (go_at_call 83; refine Calls.mono hcb.out ?_; rintro e w' ⟨rfl, hw'⟩; rw [hw']; clear hw' w')
    go_ret2
    exact ⟨ret_pair HA.out.symm, Below.refl _ _⟩
  · have hd : decide ((endS s : Int) - 1 < 6) = false := by simp; omega
    have HSH := hid (show 7 ≤ endS s from by omega)
    have HOV := hid (fun k (hk : k ≤ n) (he : endS s < (decT t s k).2 + 1) => rd_no (t := t) (s := s) (n := n) (rdOk_over hk he))
    have HFIN := hid (show rdOk t s n = decide (7 ≤ endS s ∧ (decT t s n).1 = 0 ∧ (decT t s n).2 + 1 = endS s) from rfl)
    have HD0 := hid (show decT t s 0 = (valF (bitF s) 0 6, 6) from rfl)
    generalize endS s = E at *
    go_enter Try.func76, Try.ntmps76
    go_wp2_with (go_at_call 83; refine Calls.mono hcb.out ?_; rintro e w' ⟨rfl, hw'⟩; rw [hw']; clear hw' w')
    go_loop [9, 10] (fun sl a => ∃ j q : Nat, j ≤ 6 ∧ q < 128 ∧ q = valF (bitF s) 0 j ∧ sl = .int .i64 q ∧ a = .int .i64 j) (fun _ a => 6 - (intOf a).toNat)
    case atStart => exact ⟨0, 0, Nat.zero_le _, by omega, rfl, rfl, rfl⟩
    case round =>
      obtain ⟨j, q, hj, hq, hqe, rfl, rfl⟩ := hrel
      have HQ := hid hqe
      clear hqe
      by_cases hj6 : j < 6
      · have hbit := HBL.out j
        have hcall := hid (HBA.out j w (by omega))
        have HV := hid (show valF (bitF s) 0 (j + 1) = 2 * q + bitF s j from by rw [valF, ← HQ.out, Nat.zero_add])
        have hv6 : 2 * q + bitF s j < 128 := by
          rw [← HV.out]
          have h1 := valF_lt HBL.out 0 (j + 1)
          have h2 : 2 ^ (j + 1) ≤ 2 ^ 6 := Nat.pow_le_pow_right (by omega) (by omega)
          omega
        generalize bitF s j = x at *
        go_wp2_with (go_at_call 84; refine Calls.mono hcall.out ?_; rintro e w' ⟨rfl, hw'⟩; rw [hw']; clear hw' w')
        go_round
        case rel => exact ⟨j + 1, 2 * q + x, by omega, hv6, HV.out.symm, by go_num, by go_num⟩
        case measure => simp [intOf]; omega
      · have HJ := hid (show j = 6 from by omega)
        have HQ6 := hid (show q = (decT t s 0).1 from by rw [HD0.out, HQ.out, HJ.out])
        have HA6 := hid (show j = (decT t s 0).2 from by rw [HD0.out, HJ.out])
        have HE0 := hid (show (decT t s 0).2 + 1 ≤ E from by rw [HD0.out]; exact HSH.out)
        clear hcb HD0
        go_wp2_with fail
        go_loopw [9, 10, 11, 12, 13] (fun sl a o i _ wr => ∃ k : Nat, k ≤ n ∧ i = .int .i64 k ∧ sl = .int .i64 ((decT t s k).1 : Int) ∧ a = .int .i64 ((decT t s k).2 : Int) ∧ wr.ownsRow w.heap.size 5 1 o k ((ints (outT t s k)).map (Value.int .u8)) ∧ (decT t s k).2 + 1 ≤ E ∧ Below w.heap.size w wr) (fun _ _ _ i _ _ => n - (intOf i).toNat)
        case atStart => exact ⟨0, Nat.zero_le _, rfl, by rw [HQ6.out], by rw [HA6.out], World.ownsRow_nil _ _ _ _, HE0.out, Below.refl _ _⟩
        case round =>
          obtain ⟨k, hk, rfl, rfl, rfl, hown, hae, hbel⟩ := hrel
          have hsz := hbel.size
          have hsl := decT_lt (s := s) HT.out k
          by_cases hlt : k < n
          · have hL := h.below hbel hbs
            have HDS := hid (show decT t s (k + 1) = (tNum t (decT t s k).1 * 2 ^ kOf (tNum t (decT t s k).1) + valF (bitF s) (decT t s k).2 (kOf (tNum t (decT t s k).1)) - 64, (decT t s k).2 + kOf (tNum t (decT t s k).1)) from rfl)
            have HOS := hid (show outT t s (k + 1) = outT t s k ++ [tOwn t (decT t s k).1] from rfl)
            have HOVK := hid (HOV.out (k + 1) (by omega))
            have hn1 := HT.out.num_bd hsl
            have hn2 := HT.out.one _ hsl
            have hn3 := HT.out.le (tOwn t (decT t s k).1)
            have HKU := hid (kOf_up (n := tNum t (decT t s k).1) (by omega) (by omega))
            have HMID := hid (fun j v (hj : j < kOf (tNum t (decT t s k).1)) (hv : v < 2 ^ j) => mid_lt (n := tNum t (decT t s k).1) (by omega) (by omega) hj hv)
            have HDB := hid (double_spec (n := tNum t (decT t s k).1) hn2 hn3 hn1.1 hn1.2 (valF_lt HBL.out (decT t s k).2 (kOf (tNum t (decT t s k).1))))
            have hown1 := hid (owner_any b _ _ _ (decT t s k).1 wr hL hsl)
            have hov := tOwn_lt t (decT t s k).1
            have HNB := hid (fun w h => number_any b (tOwn t) (tNum t) (tShr t) (decT t s k).1 w h hsl)
            have hN127 : tNum t (decT t s k).1 < 128 := by omega
            have HN1 := hid (show 1 ≤ tNum t (decT t s k).1 from by omega)
            clear hn1 hn2 hn3
            generalize hS : (decT t s k).1 = S at *
            generalize hA : (decT t s k).2 = A at *
            clear hS hA
            generalize hN : tNum t S = N at *
            generalize hK : kOf N = K at *
            clear hN hK
            generalize hO : tOwn t S = O at *
            clear hO
            have hdk : decide ((k : Int) < (n : Int)) = true := by simp; omega
            obtain ⟨w1, rfl⟩ : ∃ w1, w1 = wr := ⟨wr, rfl⟩
            go_wp2_with (first
              | (go_at_call 85; refine Calls.mono hown1.out ?_; rintro e w' ⟨rfl, rfl⟩)
              | (at_builtin; refine wpList_append_own _ rfl (.tmp 33) (.tmp 37) 29 rfl w.heap.size 5 i0 (.int .u8 0) 1 1 Try.underlying29 hi hz0 hz1 hz2 rfl (by decide) _ _ _ rfl (hown.alloc _) ⟨_, 0, none⟩ 1 1 [.int .u8 (O : Int)] rfl rfl (cell_one_new _ _ _) (by intro u hu; simp at hu; subst hu; rfl) (by unfold maxLen; omega) (by omega) (by simp; omega) ?_; intro v' w4 hown' hgrow _))
            have bel4 : Below w.heap.size w w4 := (hbel.alloc hsz _).grown hgrow (by simp; omega) (own_base hown)
            have hL4 := h.below bel4 hbs
            have hown4 : w4.ownsRow w.heap.size 5 1 v' (k + 1) ((ints (outT t s (k + 1))).map (Value.int .u8)) := by
              rw [HOS.out]; simpa [ints] using hown'
            have HOW4 := hid hown4
            have HB4 := hid bel4
            have hnc := hid (HNB.out w4 hL4)
            clear hown' hgrow hown hbel hown4 bel4 hown1 hL hL4 HNB
            refine Calls.mono hnc.out ?_
            rintro e w5 ⟨rfl, hw5⟩
            rw [hw5]
            clear hw5 w5 hnc
            go_wp2_with fail
            go_loopw [10, 13] (fun a m wi => ∃ j q : Nat, j ≤ K ∧ q < 128 ∧ q = N * 2 ^ j + valF (bitF s) A j ∧ a = .int .i64 ((A : Int) + (j : Int)) ∧ m = .int .i64 q ∧ A + j + 1 ≤ E ∧ wi = w4) (fun _ m _ => 128 - (intOf m).toNat)
            case atStart => exact ⟨0, N, Nat.zero_le _, hN127, by simp [valF], by simp, rfl, by omega, rfl⟩
            case round =>
              obtain ⟨j, q, hj, hq, hqe, rfl, rfl, hje, rfl⟩ := hrel
              have HQ := hid hqe
              clear hqe
              have hku := HKU.out
              by_cases hjK : j < K
              · have hq64 : q < 64 := by rw [HQ.out]; exact HMID.out j _ hjK (valF_lt HBL.out A j)
                by_cases hEj : A + j + 1 < E
                · have hbit := HBL.out (A + j)
                  have hcall := hid (HBA.out (A + j) wr (by omega))
                  have HV := hid (show 2 * q + bitF s (A + j) = N * 2 ^ (j + 1) + valF (bitF s) A (j + 1) from by
                    rw [valF, HQ.out, Nat.pow_succ, Nat.mul_add, ← Nat.mul_assoc, Nat.mul_comm 2 N, Nat.mul_assoc, Nat.mul_comm 2 (2 ^ j), Nat.add_assoc])
                  have hAj : ((A + j : Nat) : Int) = (A : Int) + (j : Int) := by omega
                  rw [hAj] at hcall
                  clear hAj
                  have hcd : decide ((E : Int) - 1 ≤ (A : Int) + (j : Int)) = false := by simp; omega
                  generalize bitF s (A + j) = x at *
                  have hq1 : 1 ≤ q := by
                    rw [HQ.out]
                    have := Nat.two_pow_pos j
                    have : 1 * 1 ≤ N * 2 ^ j := Nat.mul_le_mul HN1.out this
                    omega
                  go_wp2_with (go_at_call 84; refine Calls.mono hcall.out ?_; rintro e w' ⟨rfl, hw'⟩; rw [hw']; clear hw' w')
                  go_roundw
                  case rel => exact ⟨j + 1, 2 * q + x, by omega, by omega, HV.out, by go_num, by go_num, by omega, trivial⟩
                  case measure => simp [intOf]; omega
                · have HF := hid (HOVK.out (by rw [HDS.out]; simp only; omega))
                  have hcd : (E : Int) - 1 ≤ (A : Int) + (j : Int) := by omega
                  have hb5 := HB4.out
                  go_wp2
                  go_ret2
                  exact ⟨ret_pair HF.out.symm, hb5⟩
              · have HJK := hid (show j = K from by omega)
                have hq64 : 64 ≤ q := by rw [HQ.out, HJK.out]; exact HDB.out.1
                have HE2 := hid (show decT t s (k + 1) = (q - 64, A + j) from by rw [HDS.out, HQ.out, HJK.out])
                go_wp2
                go_roundw
                case rel => exact ⟨k + 1, by omega, by go_num, by rw [HE2.out]; go_num, by rw [HE2.out]; go_num, HOW4.out, by rw [HE2.out]; exact hje, HB4.out⟩
                case measure => simp [intOf]; omega
          · have HK := hid (show k = n from by omega)
            have hconv := conv_own (P := Try.prog) (dst := 9) Try.underlying29 Try.underlying5 Try.underlying9 hown
            rw [HK.out] at hconv
            rw [← HK.out] at HFIN
            have HKN := hid (show rdOk t s n = rdOk t s k from by rw [HK.out])
            rw [HK.out] at HFIN
            by_cases c1 : (decT t s k).1 = 0
            · have c1' : (((decT t s k).1 : Int) != 0) = false := by simp [c1]
              by_cases c2 : (decT t s k).2 + 1 = E
              · have HR := hid (show rd t s n = (strN (outT t s n), true) from rd_yes (by rw [HFIN.out, ← HK.out]; simp only [decide_eq_true_eq]; exact ⟨HSH.out, c1, c2⟩))
                have c2' : (((decT t s k).2 : Int) != (E : Int) - 1) = false := by simp; omega
                clear c1 c2 HFIN HKN
                generalize (decT t s k).1 = S at *
                generalize (decT t s k).2 = A at *
                go_wp2
                go_ret2
                exact ⟨ret_pair HR.out.symm, hbel⟩
              · have HR := hid (show rd t s n = (⟨#[]⟩, false) from rd_no (by rw [HFIN.out, ← HK.out]; simp only [decide_eq_false_iff_not]; intro q; exact c2 q.2.2))
                have c2' : (((decT t s k).2 : Int) != (E : Int) - 1) = true := by simp; omega
                clear c1 c2 HFIN HKN
                generalize (decT t s k).1 = S at *
                generalize (decT t s k).2 = A at *
                go_wp2
                go_ret2
                exact ⟨ret_pair HR.out.symm, hbel⟩
            · have HR := hid (show rd t s n = (⟨#[]⟩, false) from rd_no (by rw [HFIN.out, ← HK.out]; simp only [decide_eq_false_iff_not]; intro q; exact c1 q.2.1))
              have c1' : (((decT t s k).1 : Int) != 0) = true := by simp [c1]
              clear c1 HFIN HKN
              generalize (decT t s k).1 = S at *
              generalize (decT t s k).2 = A at *
              go_wp2
              go_ret2
              exact ⟨ret_pair HR.out.symm, hbel⟩

/-! ### P6: the walk of Unsqueeze. -/
/-- What Unsqueeze answers. -/
def usAns (t s : ByteArray) (n : Int) : ByteArray × Int :=
  if 1000 < s.size then (⟨#[]⟩, 1) else if n < 0 ∨ 500 < n then (⟨#[]⟩, 2) else if isTB t = false then (⟨#[]⟩, 3) else if rdOk t s n.toNat = false then (⟨#[]⟩, 5) else (strN (outT t s n.toNat), 0)

end Go.Proofs.Ytnconbpneimjiaa

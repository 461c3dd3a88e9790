/-
  P6: the walks of countBits, bitAt, Read.
-/
import Derived.Test.YtaofgdgfmdieeaaSqzWalk
namespace Go.Proofs.Ytaofgdgfmdieeaa
open Go.RowKit Go.PlainAid

theorem ret_int2 {k : IntKind} {a b : Int} (h : a = b) : Ending.returned (.int k a) = .returned (.int k b) := by rw [h]
theorem tzF_even {f q : Nat} (h : q % 2 = 0) : tzF (f + 1) q = tzF f (q / 2) + 1 := by rw [tzF, if_pos h]
theorem tzF_odd {f q : Nat} (h : q % 2 ≠ 0) : tzF f q = 0 := by
  cases f with
  | zero => rfl
  | succ f => rw [tzF, if_neg h]

set_option maxRecDepth 100000 in
set_option maxHeartbeats 400000 in
theorem countBits_any (s : ByteArray) (w : World) (hs : s.size ≤ 1000) :
    Calls Try.prog 71 #[.string s] w fun e w' => e = .returned (.int .i64 ((endS s : Int) - 1)) ∧ w' = w := by
  have hb := get_btn s
  by_cases h0 : s.size = 0
  · have h0' : ((s.size : Int) == 0) = true := beq_iff_eq.2 (by omega)
    have HE := hid (show endS s = 0 from by unfold endS; rw [if_pos (Or.inl h0)])
    clear h0
    go_enter Try.func71, Try.ntmps71
    go_wp2
    go_ret
    exact ⟨ret_int2 (by rw [HE.out]; rfl), rfl⟩
  · have h0' : ((s.size : Int) == 0) = false := beq_eq_false_iff_ne.2 (by omega)
    have hidx : s.size - 1 < s.size := by omega
    have b1 := btn_lt s (s.size - 1)
    by_cases hz : btn s (s.size - 1) = 0
    · have hz' : ((btn s (s.size - 1) : Int) == 0) = true := beq_iff_eq.2 (by omega)
      have HE := hid (show endS s = 0 from by unfold endS; rw [if_pos (Or.inr hz)])
      clear hz
      go_enter Try.func71, Try.ntmps71
      go_wp2
      go_ret
      exact ⟨ret_int2 (by rw [HE.out]; rfl), rfl⟩
    · have hz' : ((btn s (s.size - 1) : Int) == 0) = false := beq_eq_false_iff_ne.2 (by omega)
      have HE := hid (show endS s = 8 * s.size - tzF 8 (btn s (s.size - 1)) from by unfold endS; rw [if_neg (by omega)])
      clear hz
      go_enter Try.func71, Try.ntmps71
      go_wp2
      go_loop [3, 4, 5] (fun l bts i => ∃ j q f : Nat, f + j = 8 ∧ q < 256 ∧ tzF 8 (btn s (s.size - 1)) = tzF f q + j ∧ l = .int .i64 q ∧ bts = .int .i64 (8 * (s.size : Int) - 1 - (j : Int)) ∧ i = .int .i64 j) (fun _ _ i => 8 - (intOf i).toNat)
      case atStart => exact ⟨0, btn s (s.size - 1), 8, rfl, b1, rfl, rfl, by simp, rfl⟩
      case round =>
        obtain ⟨j, q, f, hfj, hq, htz, rfl, rfl, rfl⟩ := hrel
        have HTZ := hid htz
        clear htz
        by_cases hj : j < 8
        · by_cases he : q % 2 = 0
          · have he' : ((q : Int) % 2 == 0) = true := beq_iff_eq.2 (by omega)
            have HEV := hid he
            clear he
            go_wp2
            go_round
            case rel =>
              cases f with
              | zero => omega
              | succ f => exact ⟨j + 1, q / 2, f, by omega, by omega, by rw [HTZ.out, tzF_even HEV.out]; omega, by go_num, by go_num, by go_num⟩
            case measure => simp [intOf]; omega
          · have he' : ((q : Int) % 2 == 0) = false := beq_eq_false_iff_ne.2 (by omega)
            have HR := hid (show 8 * (s.size : Int) - 1 - (j : Int) = (endS s : Int) - 1 from by
              have e1 := HE.out
              rw [HTZ.out, tzF_odd he] at e1
              omega)
            clear he
            go_wp2
            go_ret
            exact ⟨ret_int2 HR.out, rfl⟩
        · have HR := hid (show 8 * (s.size : Int) - 1 - (j : Int) = (endS s : Int) - 1 from by
            have e1 := HE.out
            have : f = 0 := by omega
            rw [HTZ.out, this, tzF] at e1
            omega)
          go_wp2
          go_ret
          exact ⟨ret_int2 HR.out, rfl⟩

set_option maxRecDepth 100000 in
set_option maxHeartbeats 400000 in
theorem bitAt_any (s : ByteArray) (a : Nat) (w : World) (hs : s.size ≤ 1000) (ha : a ≤ 100000) :
    Calls Try.prog 72 #[.string s, .int .i64 a] w fun e w' => e = .returned (.int .i64 (bitF s a : Int)) ∧ w' = w := by
  have hb := get_btn s
  have c1 : decide ((a : Int) < 0) = false := by simp
  by_cases h0 : s.size ≤ a / 8
  · have HB := hid (show bitF s a = 0 from by
      unfold bitF btn
      rw [bt_end s h0]
      simp)
    have c2 : (s.size : Int) ≤ (a : Int) / 8 := by omega
    go_enter Try.func72, Try.ntmps72
    go_wp2
    go_ret
    exact ⟨ret_int2 (by rw [HB.out]; rfl), rfl⟩
  · have c2 : decide ((s.size : Int) ≤ (a : Int) / 8) = false := by simp; omega
    have hidx : a / 8 < s.size := by omega
    have b1 := btn_lt s (a / 8)
    have HB := hid (show bitF s a = btn s (a / 8) / 2 ^ (7 - a % 8) % 2 from rfl)
    have hm : a % 8 < 8 := by omega
    go_enter Try.func72, Try.ntmps72
    go_wp2
    go_loop [5, 6] (fun p i => ∃ j q : Nat, j ≤ 7 - a % 8 ∧ q < 256 ∧ q = btn s (a / 8) / 2 ^ j ∧ p = .int .i64 q ∧ i = .int .i64 ((a % 8 + j : Nat) : Int)) (fun _ i => 8 - (intOf i).toNat)
    case atStart => exact ⟨0, btn s (a / 8), Nat.zero_le _, b1, by simp, rfl, by simp⟩
    case round =>
      obtain ⟨j, q, hj, hq, hqe, rfl, rfl⟩ := hrel
      have HQ := hid hqe
      clear hqe
      by_cases hj2 : a % 8 + j < 7
      · go_wp2
        go_round
        case rel => exact ⟨j + 1, q / 2, by omega, by omega, by rw [HQ.out, Nat.pow_succ, Nat.div_div_eq_div_mul], by go_num, by go_num⟩
        case measure => simp [intOf]; omega
      · have HJ := hid (show j = 7 - a % 8 from by omega)
        go_wp2
        go_ret
        exact ⟨ret_int2 (by rw [HB.out, ← HJ.out, ← HQ.out]; omega), rfl⟩
end Go.Proofs.Ytaofgdgfmdieeaa

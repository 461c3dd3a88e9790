/-
  P8, P9: the walks of numbers in bytes and of Write.
-/
import Derived.Test.YtaofgdgfmdieeaaStrTab
import Derived.Test.YtaofgdgfmdieeaaSumWalks
import Derived.Test.YtaofgdgfmdieeaaPackWalk
import Derived.Test.YtaofgdgfmdieeaaPlainF
namespace Go.Proofs.Ytaofgdgfmdieeaa
open Go.RowKit Go.PlainAid

set_option maxRecDepth 100000 in
set_option maxHeartbeats 400000 in
theorem wnum_any (n k : Nat) (w : World) (hn : n < 4294967296) (hk : k ≤ 4) :
    Calls Try.prog 79 #[.int .i64 n, .int .i64 k] w fun e w' => e = .returned (.string (le n k)) ∧ Below w.heap.size w w' := by
  obtain ⟨i0, hi, hz0, hz1, hz2⟩ := info_parts Try.infoU8
  go_enter Try.func79, Try.ntmps79
  go_wp2
  go_loopw [0, 5, 6] (fun m v i wr => ∃ j q : Nat, j ≤ k ∧ q < 4294967296 ∧ q = n / 256 ^ j ∧ m = .int .i64 q ∧ i = .int .i64 j ∧ wr.ownsRow w.heap.size 5 1 v j ((ints (leL n j)).map (Value.int .u8)) ∧ Below w.heap.size w wr) (fun _ _ i _ => k - (intOf i).toNat)
  case atStart => exact ⟨0, n, Nat.zero_le _, hn, by simp, rfl, rfl, World.ownsRow_nil _ _ _ _, Below.refl _ _⟩
  case round =>
    obtain ⟨j, q, hj, hq, hqn, rfl, rfl, hown, hbel⟩ := hrel
    have HQ := hid hqn
    have hsz := hbel.size
    clear hqn
    by_cases hlt : j < k
    · have HL := hid (leL_succ n j)
      rw [← HQ.out] at HL
      go_wp2_with (at_builtin; refine wpList_append_own _ rfl (.tmp 12) (.tmp 16) 37 rfl w.heap.size 5 i0 (.int .u8 0) 1 1 Try.underlying37 hi hz0 hz1 hz2 rfl (by decide) _ _ _ rfl (hown.alloc _) ⟨_, 0, none⟩ 1 1 [.int .u8 ((q : Int) % 256)] rfl rfl (cell_one_new _ _ _) (by intro u hu; simp at hu; subst hu; rfl) (by unfold maxLen; omega) (by omega) (by simp; omega) ?_; intro v' w4 hown' hgrow _)
      go_roundw
      case rel =>
        have hown4 : w4.ownsRow w.heap.size 5 1 v' (j + 1) ((ints (leL n (j + 1))).map (Value.int .u8)) := by
          rw [HL.out]; simpa [ints] using hown'
        have bel4 := (hbel.alloc hsz _).grown hgrow (by simp; omega) (own_base hown)
        have hq4 : q / 256 = n / 256 ^ (j + 1) := by rw [HQ.out, Nat.pow_succ, Nat.div_div_eq_div_mul]
        first
          | exact ⟨j + 1, q / 256, by omega, by omega, hq4, by go_num, by go_num, hown4, bel4⟩
          | ((repeat apply Exists.intro); exact ⟨⟨j + 1, q / 256, by omega, by omega, hq4, by go_num, by go_num, hown4, bel4⟩, rfl⟩)
      case measure => simp [intOf]; omega
    · have HJ := hid (show j = k from by omega)
      have hconv := conv_own (P := Try.prog) (dst := 9) Try.underlying37 Try.underlying5 Try.underlying9 hown
      have HE := hid (show strOfNums (ints (leL n j)) = le n k from by rw [HJ.out]; rfl)
      rw [HE.out] at hconv
      go_wp2
      go_ret
      exact ⟨rfl, hbel⟩

set_option maxRecDepth 100000 in
set_option maxHeartbeats 400000 in
theorem little_any (n k : Nat) (w : World) (hn : n < 4294967296) (hk : k ≤ 4) :
    Calls Try.prog 57 #[.int .i64 n, .int .i64 k] w fun e w' => e = .returned (.string (le n k)) ∧ Below w.heap.size w w' := by
  obtain ⟨i0, hi, hz0, hz1, hz2⟩ := info_parts Try.infoU8
  go_enter Try.func57, Try.ntmps57
  go_wp2
  go_loopw [0, 5, 6] (fun m v i wr => ∃ j q : Nat, j ≤ k ∧ q < 4294967296 ∧ q = n / 256 ^ j ∧ m = .int .i64 q ∧ i = .int .i64 j ∧ wr.ownsRow w.heap.size 5 1 v j ((ints (leL n j)).map (Value.int .u8)) ∧ Below w.heap.size w wr) (fun _ _ i _ => k - (intOf i).toNat)
  case atStart => exact ⟨0, n, Nat.zero_le _, hn, by simp, rfl, rfl, World.ownsRow_nil _ _ _ _, Below.refl _ _⟩
  case round =>
    obtain ⟨j, q, hj, hq, hqn, rfl, rfl, hown, hbel⟩ := hrel
    have HQ := hid hqn
    have hsz := hbel.size
    clear hqn
    by_cases hlt : j < k
    · have HL := hid (leL_succ n j)
      rw [← HQ.out] at HL
      go_wp2_with (at_builtin; refine wpList_append_own _ rfl (.tmp 12) (.tmp 16) 37 rfl w.heap.size 5 i0 (.int .u8 0) 1 1 Try.underlying37 hi hz0 hz1 hz2 rfl (by decide) _ _ _ rfl (hown.alloc _) ⟨_, 0, none⟩ 1 1 [.int .u8 ((q : Int) % 256)] rfl rfl (cell_one_new _ _ _) (by intro u hu; simp at hu; subst hu; rfl) (by unfold maxLen; omega) (by omega) (by simp; omega) ?_; intro v' w4 hown' hgrow _)
      go_roundw
      case rel =>
        have hown4 : w4.ownsRow w.heap.size 5 1 v' (j + 1) ((ints (leL n (j + 1))).map (Value.int .u8)) := by
          rw [HL.out]; simpa [ints] using hown'
        have bel4 := (hbel.alloc hsz _).grown hgrow (by simp; omega) (own_base hown)
        have hq4 : q / 256 = n / 256 ^ (j + 1) := by rw [HQ.out, Nat.pow_succ, Nat.div_div_eq_div_mul]
        first
          | exact ⟨j + 1, q / 256, by omega, by omega, hq4, by go_num, by go_num, hown4, bel4⟩
          | ((repeat apply Exists.intro); exact ⟨⟨j + 1, q / 256, by omega, by omega, hq4, by go_num, by go_num, hown4, bel4⟩, rfl⟩)
      case measure => simp [intOf]; omega
    · have HJ := hid (show j = k from by omega)
      have hconv := conv_own (P := Try.prog) (dst := 9) Try.underlying37 Try.underlying5 Try.underlying9 hown
      have HE := hid (show strOfNums (ints (leL n j)) = le n k from by rw [HJ.out]; rfl)
      rw [HE.out] at hconv
      go_wp2
      go_ret
      exact ⟨rfl, hbel⟩

theorem pow4 {k : Nat} (hk : k ≤ 4) : 256 ^ k ≤ 4294967296 := by
  have : 256 ^ k ≤ 256 ^ 4 := Nat.pow_le_pow_right (by omega) hk
  omega
set_option maxRecDepth 100000 in
set_option maxHeartbeats 400000 in
theorem rnum_any (s : ByteArray) (w : World) (hs : s.size ≤ 4) :
    Calls Try.prog 80 #[.string s] w fun e w' => e = .returned (.int .i64 (num s 0 s.size : Int)) ∧ w' = w := by
  have hb := get_btn s
  go_enter Try.func80, Try.ntmps80
  go_wp2
  go_loop [3, 4] (fun n i => ∃ c : Nat, c ≤ s.size ∧ i = .int .i64 ((s.size : Int) - 1 - (c : Int)) ∧ n = .int .i64 (num s (s.size - c) c : Int)) (fun _ i => (intOf i + 1).toNat)
  case atStart => exact ⟨0, Nat.zero_le _, by simp, rfl⟩
  case round =>
    obtain ⟨c, hc, rfl, rfl⟩ := hrel
    have hn := num_lt s (s.size - c) c
    have hp := pow4 (k := c) (by omega)
    by_cases hlt : c < s.size
    · have HF := hid (show num s (s.size - (c + 1)) (c + 1) = 256 * num s (s.size - c) c + btn s (s.size - 1 - c) from by
        rw [num_front, show s.size - (c + 1) + 1 = s.size - c from by omega, show s.size - (c + 1) = s.size - 1 - c from by omega])
      have hb1 := btn_lt s (s.size - 1 - c)
      have hdi : decide ((0 : Int) ≤ (s.size : Int) - 1 - (c : Int)) = true := by simp; omega
      generalize num s (s.size - c) c = x at *
      go_wp2
      go_round
      case rel => exact ⟨c + 1, by omega, by go_num, by rw [HF.out]; go_num⟩
      case measure => simp [intOf]; omega
    · have HC := hid (show c = s.size from by omega)
      have hdi : decide ((0 : Int) ≤ (s.size : Int) - 1 - (c : Int)) = false := by simp; omega
      have HE := hid (show num s (s.size - c) c = num s 0 s.size from by rw [HC.out, Nat.sub_self])
      go_wp2
      go_ret
      exact ⟨ret_int (by rw [HE.out]), rfl⟩
set_option maxRecDepth 100000 in
set_option maxHeartbeats 400000 in
theorem refNumber_any (s : ByteArray) (a k : Nat) (w : World) (hs : s.size ≤ maxLen) (hk : k ≤ 4) (ha : a + k ≤ s.size) :
    Calls Try.prog 59 #[.string s, .int .i64 a, .int .i64 k] w fun e w' => e = .returned (.int .i64 (num s a k : Int)) ∧ w' = w := by
  unfold maxLen at hs
  have hb := get_btn s
  go_enter Try.func59, Try.ntmps59
  go_wp2
  go_loop [7, 8, 9] (fun n b i => ∃ c p : Nat, c ≤ k ∧ p = 256 ^ c ∧ i = .int .i64 c ∧ b = .int .i64 p ∧ n = .int .i64 (num s a c : Int)) (fun _ _ i => k - (intOf i).toNat)
  case atStart => exact ⟨0, 1, Nat.zero_le _, rfl, rfl, rfl, rfl⟩
  case round =>
    obtain ⟨c, p, hc, hpe, rfl, rfl, rfl⟩ := hrel
    have hn := num_lt s a c
    have hp := pow4 (k := c) (by omega)
    rw [← hpe] at hn hp
    by_cases hlt : c < k
    · have HF := hid (show num s a (c + 1) = num s a c + p * btn s (a + c) from by rw [num, hpe])
      have HP := hid (show p * 256 = 256 ^ (c + 1) from by rw [Nat.pow_succ, hpe])
      have hb1 := btn_lt s (a + c)
      have hmul : p * btn s (a + c) ≤ p * 255 := Nat.mul_le_mul_left _ (by omega)
      have hm0 : (0 : Int) ≤ (p : Int) * (btn s (a + c) : Int) := by rw [← Int.natCast_mul]; omega
      have hm1 : (p : Int) * (btn s (a + c) : Int) ≤ 4294967296 * 255 := by rw [← Int.natCast_mul]; omega
      have HM := hid (show ((p * btn s (a + c) : Nat) : Int) = (p : Int) * (btn s (a + c) : Int) from Int.natCast_mul _ _)
      clear hpe hmul
      generalize num s a c = x at *
      go_wp2
      go_round
      case rel => exact ⟨c + 1, p * 256, by omega, HP.out, by go_num, by go_num, by rw [HF.out, Int.natCast_add, HM.out]⟩
      case measure => simp [intOf]; omega
    · have HC := hid (show c = k from by omega)
      go_wp2
      go_ret
      exact ⟨ret_int (by rw [HC.out]), rfl⟩
theorem ofW_any (s : ByteArray) (w : World) (hs : s.size ≤ maxLen) :
    Calls Try.prog 35 #[.string s] w fun e w' => e = .returned (.int .i64 (wSum s : Int)) ∧ w' = w := by
  have h := of_any s w hs
  rw [wSum_int] at h
  exact h
theorem refSumW_any (s : ByteArray) (w : World) (hs : s.size ≤ maxLen) :
    Calls Try.prog 16 #[.string s] w fun e w' => e = .returned (.int .i64 (wSum s : Int)) ∧ w' = w := by
  have h := refSum_any s w hs
  rw [wSum_int] at h
  exact h
end Go.Proofs.Ytaofgdgfmdieeaa

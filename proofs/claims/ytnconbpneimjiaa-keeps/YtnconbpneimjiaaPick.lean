/-
  The keep's pick.
-/
import Derived.Test.YtnconbpneimjiaaSumWalks
import Derived.Test.YtnconbpneimjiaaTabWalks
import Derived.OpenShut
namespace Go.Proofs.Ytnconbpneimjiaa
open Go.RowKit Go.PlainAid

/-- Which of n things a raw number speaks of. -/
def pk (c : Int) (n : Nat) : Nat := ((if c < 0 then -(c + 1) else c) % (n : Int)).toNat
theorem pk_lt (c : Int) {n : Nat} (h : 1 ≤ n) : pk c n < n := by
  unfold pk
  have := Int.emod_lt_of_pos (if c < 0 then -(c + 1) else c) (show (0 : Int) < (n : Int) by omega)
  have := Int.emod_nonneg (if c < 0 then -(c + 1) else c) (show (n : Int) ≠ 0 by omega)
  omega
set_option maxRecDepth 100000 in
set_option maxHeartbeats 400000 in
theorem pk_any (c : Int) (n : Nat) (w : World) (h0 : -9223372036854775808 ≤ c) (h1 : c ≤ 9223372036854775807) (hn : 1 ≤ n) (hn2 : n ≤ 1000000) :
    Calls Try.prog 7 #[.int .i64 c, .int .i64 n] w fun e w' => e = .returned (.int .i64 (pk c n : Int)) ∧ w' = w := by
  have hz : ((n : Int) == 0) = false := beq_eq_false_iff_ne.2 (by omega)
  have hz2 : ((n : Int) == -1) = false := beq_eq_false_iff_ne.2 (by omega)
  have hnz : (n : Int) ≠ 0 := by omega
  by_cases hc : c < 0
  · have HP := hid (show (pk c n : Int) = (-(c + 1)) % (n : Int) from by
      unfold pk
      rw [if_pos hc]
      have := Int.emod_nonneg (-(c + 1)) hnz
      omega)
    have m0 := Int.emod_nonneg (-(c + 1)) hnz
    have m1 := Int.emod_lt_of_pos (-(c + 1)) (show (0 : Int) < (n : Int) by omega)
    have hneg : 0 ≤ -(c + 1) := by omega
    obtain ⟨x, hx⟩ : ∃ x, -(c + 1) = x := ⟨_, rfl⟩
    rw [hx] at HP m0 m1 hneg
    have hx2 : x ≤ 9223372036854775807 := by omega
    go_enter Try.func7, Try.ntmps7
    go_wp2
    go_ret
    exact ⟨ret_int HP.out.symm, rfl⟩
  · have HP := hid (show (pk c n : Int) = c % (n : Int) from by
      unfold pk
      rw [if_neg hc]
      have := Int.emod_nonneg c hnz
      omega)
    have m0 := Int.emod_nonneg c hnz
    have m1 := Int.emod_lt_of_pos c (show (0 : Int) < (n : Int) by omega)
    have hc0 : 0 ≤ c := by omega
    have hcd : decide (c < 0) = false := by simp; omega
    go_enter Try.func7, Try.ntmps7
    go_wp2
    go_ret
    exact ⟨ret_int HP.out.symm, rfl⟩
end Go.Proofs.Ytnconbpneimjiaa

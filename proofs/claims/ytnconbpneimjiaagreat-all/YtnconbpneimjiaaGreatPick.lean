/-
  The keep's pick.
-/
import Derived.Test.YtnconbpneimjiaaGreatSumWalks
import Derived.Test.YtnconbpneimjiaaGreatTabWalks
import Derived.OpenShut
namespace Go.Proofs.YtnconbpneimjiaaGreat
open Go.RowKit Go.PlainAid

/-- Which of n things a raw number speaks of. -/
def pk (c : Int) (n : Nat) : Nat := ((if c < 0 then -(c + 1) else c) % (n : Int)).toNat
theorem pk_lt (c : Int) {n : Nat} (h : 1 ≤ n) : pk c n < n := by
  unfold pk
  have := Int.emod_lt_of_pos (if c < 0 then -(c + 1) else c) (show (0 : Int) < (n : Int) by omega)
  have := Int.emod_nonneg (if c < 0 then -(c + 1) else c) (show (n : Int) ≠ 0 by omega)
  omega
end Go.Proofs.YtnconbpneimjiaaGreat

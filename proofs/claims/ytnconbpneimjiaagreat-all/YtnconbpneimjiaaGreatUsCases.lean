/-
  P5, P6, plain: what Unsqueeze answers, by cases.
-/
import Derived.Test.YtnconbpneimjiaaGreatUnsWalk
import Derived.Test.YtnconbpneimjiaaGreatPlain
namespace Go.Proofs.YtnconbpneimjiaaGreat
open Go.RowKit Go.PlainAid

/-- A refusal's text is empty; else what was read is written just so again. -/
theorem us_cases (t s : ByteArray) (n : Int) : ((usAns t s n).2 ≠ 0 ∧ (usAns t s n).1 = ⟨#[]⟩) ∨
    ((usAns t s n).2 = 0 ∧ sqAns t (usAns t s n).1 = (s, 0) ∧ 0 < s.size ∧ ((usAns t s n).1.size : Int) = n ∧ (usAns t s n).1.size ≤ 500) := by
  unfold usAns
  by_cases c1 : 1000 < s.size
  · rw [if_pos c1]; exact .inl ⟨by simp, rfl⟩
  · rw [if_neg c1]
    by_cases c2 : n < 0 ∨ 500 < n
    · rw [if_pos c2]; exact .inl ⟨by simp, rfl⟩
    · rw [if_neg c2]
      cases hT : isTB t
      · rw [if_pos rfl]; exact .inl ⟨by simp, rfl⟩
      · rw [if_neg (by simp)]
        cases hR : rdOk t s n.toNat
        · rw [if_pos rfl]; exact .inl ⟨by simp, rfl⟩
        · rw [if_neg (by simp)]
          right
          have h := tok hT
          have hsz : (strN (outT t s n.toNat)).size = n.toNat := by rw [strN_size, outT_len]
          refine ⟨rfl, ?_, ?_, ?_, ?_⟩
          · show sqAns t (strN (outT t s n.toNat)) = _
            unfold sqAns
            rw [if_neg (by omega), if_neg (by rw [hT]; simp), if_neg (by rw [out_allSh h]; simp), canon h hR]
          · simp only [rdOk, decide_eq_true_eq] at hR
            have := endS_le s
            omega
          · show ((strN (outT t s n.toNat)).size : Int) = n
            rw [hsz]; omega
          · show (strN (outT t s n.toNat)).size ≤ 500
            rw [hsz]; omega
end Go.Proofs.YtnconbpneimjiaaGreat

/-
  P5, P6, plain: bounds on what is written.
-/
import Derived.Test.YtjnieekhagmdfaaEncMath
namespace Go.Proofs.Ytjnieekhagmdfaa
open Go.PlainAid

structure EncOk (t s : ByteArray) (c : Nat) : Prop where
  lt : (encT t s c).1 < 64
  len : (encT t s c).2.length ≤ 6 * c
  bit : ∀ x ∈ (encT t s c).2, x < 2
theorem encOk {t s : ByteArray} (h : TOk t) (c : Nat) (hs : ∀ j, j < c → 1 ≤ tShr t (btn s (s.size - 1 - j))) : EncOk t s c := by
  induction c with
  | zero => exact ⟨by simp [encT], by simp [encT], fun x hx => by simp [encT] at hx⟩
  | succ c ih =>
    have E := ih (fun j hj => hs j (by omega))
    obtain ⟨h1, h2, h3, h4, h5⟩ := h.st (hs c (by omega)) E.lt
    refine ⟨h1, ?_, fun x hx => ?_⟩
    · rw [encT, List.length_append]
      unfold stB
      rw [digB_len]
      have := E.len
      show stJ t _ _ + _ ≤ _
      omega
    · rw [encT, List.mem_append] at hx
      rcases hx with hx | hx
      · exact digB_bit _ _ x hx
      · exact E.bit x hx
theorem allSh_no {t s : ByteArray} {i : Nat} (hi : i < s.size) (h : ¬ 1 ≤ tShr t (btn s i)) : allSh t s = false := by
  simp only [allSh, decide_eq_false_iff_not]
  intro q
  exact h (q i hi)
theorem allSh_yes {t s : ByteArray} (h : ∀ j, j < s.size → 1 ≤ tShr t (btn s (s.size - 1 - j))) : allSh t s = true := by
  simp only [allSh, decide_eq_true_eq]
  intro i hi
  have := h (s.size - 1 - i) (by omega)
  rw [show s.size - 1 - (s.size - 1 - i) = i from by omega] at this
  exact this
end Go.Proofs.Ytjnieekhagmdfaa

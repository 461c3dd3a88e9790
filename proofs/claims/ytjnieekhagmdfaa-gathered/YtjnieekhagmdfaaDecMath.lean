/-
  P6, plain: bounds on what is read.
-/
import Derived.Test.YtjnieekhagmdfaaEncMath
namespace Go.Proofs.Ytjnieekhagmdfaa
open Go.PlainAid

theorem decT_lt {t s : ByteArray} (h : TOk t) (n : Nat) : (decT t s n).1 < 64 := by
  induction n with
  | zero =>
    have := valF_lt (bitF_lt s) 0 6
    simpa [decT] using this
  | succ n ih =>
    have := h.back ih (valF_lt (bitF_lt s) (decT t s n).2 (kOf (tNum t (decT t s n).1)))
    exact this.2.1
theorem decT_mono {t s : ByteArray} {a b : Nat} (h : a ≤ b) : (decT t s a).2 ≤ (decT t s b).2 := by
  induction b with
  | zero => obtain rfl : a = 0 := by omega
            exact Nat.le_refl _
  | succ b ih =>
    rcases Nat.lt_or_ge b a with c | c
    · obtain rfl : a = b + 1 := by omega
      exact Nat.le_refl _
    · have := ih c
      show _ ≤ (decT t s b).2 + _
      omega
theorem kOf_up {n : Nat} (h1 : 1 ≤ n) (h2 : n < 128) : kOf n ≤ 6 ∧ n < 2 ^ (7 - kOf n) := by
  have hk := kOf_cases h1
  generalize kOf n = k at *
  rcases hk with ⟨rfl, a⟩ | ⟨rfl, a, c⟩ | ⟨rfl, a, c⟩ | ⟨rfl, a, c⟩ | ⟨rfl, a, c⟩ | ⟨rfl, a, c⟩ | ⟨rfl, a⟩
  all_goals
    simp only [Nat.reduceSub, Nat.reducePow]
    omega
theorem mid_lt {n j v : Nat} (h1 : 1 ≤ n) (h2 : n < 128) (hj : j < kOf n) (hv : v < 2 ^ j) : n * 2 ^ j + v < 64 := by
  obtain ⟨a, b⟩ := kOf_up h1 h2
  have e : (n + 1) * 2 ^ j ≤ 2 ^ (7 - kOf n) * 2 ^ j := Nat.mul_le_mul_right _ (by omega)
  rw [← Nat.pow_add] at e
  have e2 : 2 ^ (7 - kOf n + j) ≤ 2 ^ 6 := Nat.pow_le_pow_right (by omega) (by omega)
  rw [Nat.add_mul, Nat.one_mul] at e
  omega
theorem rdOk_short {t s : ByteArray} {n : Nat} (h : endS s < 7) : rdOk t s n = false := by
  simp only [rdOk, decide_eq_false_iff_not]; omega
theorem rdOk_over {t s : ByteArray} {k n : Nat} (hk : k ≤ n) (h : endS s < (decT t s k).2 + 1) : rdOk t s n = false := by
  have := decT_mono (t := t) (s := s) hk
  simp only [rdOk, decide_eq_false_iff_not]; omega
theorem rd_no {t s : ByteArray} {n : Nat} (h : rdOk t s n = false) : rd t s n = (⟨#[]⟩, false) := by unfold rd; rw [h]; rfl
theorem rd_yes {t s : ByteArray} {n : Nat} (h : rdOk t s n = true) : rd t s n = (strN (outT t s n), true) := by unfold rd; rw [h]; rfl
theorem outT_len (t s : ByteArray) (n : Nat) : (outT t s n).length = n := by
  induction n with
  | zero => rfl
  | succ n ih => rw [outT, List.length_append, ih]; rfl
theorem endS_le (s : ByteArray) : endS s ≤ 8 * s.size := by unfold endS; split <;> omega
end Go.Proofs.Ytjnieekhagmdfaa

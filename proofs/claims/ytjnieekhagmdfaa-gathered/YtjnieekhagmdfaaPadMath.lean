/-
  P5, P6, plain: closed bits; texts of numbers.
-/
import Derived.Test.YtjnieekhagmdfaaEncMath
namespace Go.Proofs.Ytjnieekhagmdfaa
open Go.PlainAid

theorem padL_lo (B : List Nat) {i : Nat} (h : i < B.length) : bl (padL B) i = bl B i := by
  unfold bl padL
  rw [List.getD_eq_getElem?_getD, List.getD_eq_getElem?_getD, List.getElem?_append_left h]
theorem padL_one (B : List Nat) : bl (padL B) B.length = 1 := by
  unfold bl padL
  rw [List.getD_eq_getElem?_getD, List.getElem?_append_right (Nat.le_refl _)]
  simp
theorem padL_hi (B : List Nat) {i : Nat} (h : B.length < i) : bl (padL B) i = 0 := by
  unfold bl padL
  rw [List.getD_eq_getElem?_getD, List.getElem?_append_right (by omega)]
  obtain ⟨j, hj⟩ : ∃ j, i - B.length = j + 1 := ⟨i - B.length - 1, by omega⟩
  rw [hj, List.getElem?_cons_succ, List.getElem?_replicate]
  split <;> rfl
theorem bl_lt {B : List Nat} (h : ∀ x ∈ B, x < 2) (i : Nat) : bl B i < 2 := by
  unfold bl
  rw [List.getD_eq_getElem?_getD]
  cases hc : B[i]? with
  | none => simp
  | some x => simp only [Option.getD_some]; exact h x (List.mem_of_getElem? hc)
theorem padL_lt {B : List Nat} (h : ∀ x ∈ B, x < 2) (i : Nat) : bl (padL B) i < 2 := by
  rcases Nat.lt_trichotomy i B.length with c | c | c
  · rw [padL_lo B c]; exact bl_lt h i
  · subst c; rw [padL_one]; omega
  · rw [padL_hi B c]; omega
theorem ints_append (a b : List Nat) : ints (a ++ b) = ints a ++ ints b := by simp [ints]
theorem ints_len (a : List Nat) : (ints a).length = a.length := by simp [ints]
theorem bt_str (l : List Int) (h : ∀ x ∈ l, 0 ≤ x ∧ x < 256) (i : Nat) (hi : i < l.length) : bt (strOfNums l) i = l.getD i 0 := by
  have hs : i < (strOfNums l).size := by rw [strOfNums_size]; exact hi
  rw [← get_bt _ i hs]
  have e : (strOfNums l)[i]'hs = UInt8.ofNat (l[i]).toNat := by
    show (strOfNums l).data[i]'_ = _
    simp [strOfNums]
  have hx := h _ (List.getElem_mem hi)
  rw [e, List.getD_eq_getElem?_getD, List.getElem?_eq_getElem hi]
  simp only [UInt8.toNat_ofNat', Option.getD_some]
  omega
end Go.Proofs.Ytjnieekhagmdfaa

/-
  P11, plain: a body by its copies, one after the other.
-/
import Derived.Test.YtnconbpneimjiaaFrmBack
namespace Go.Proofs.Ytnconbpneimjiaa
open Go.PlainAid

/-- A copy as it stands in a body: loose bytes ahead, length, distance. -/
def cpB (s : Nat × Nat × Nat) : ByteArray := ctB s.1 ++ ctB (s.2.1 - 4) ++ ctB s.2.2
/-- The first copies of a row. -/
def stTo (l : List (Nat × Nat × Nat)) : Nat → ByteArray
  | 0 => ⟨#[]⟩
  | i + 1 => stTo l i ++ cpB (l.getD i (0, 0, 0))
theorem stTo_app (l : List (Nat × Nat × Nat)) (x : Nat × Nat × Nat) : ∀ i, i ≤ l.length → stTo (l ++ [x]) i = stTo l i := by
  intro i
  induction i with
  | zero => intro _; rfl
  | succ i ih =>
    intro h
    rw [stTo, stTo, ih (by omega)]
    congr 2
    rw [List.getD_eq_getElem?_getD, List.getD_eq_getElem?_getD, List.getElem?_append_left (by omega)]
theorem stTo_next (l : List (Nat × Nat × Nat)) (x : Nat × Nat × Nat) : stTo (l ++ [x]) (l ++ [x]).length = stTo l l.length ++ ctB x.1 ++ ctB (x.2.1 - 4) ++ ctB x.2.2 := by
  rw [List.length_append, List.length_singleton, stTo, stTo_app l x _ (Nat.le_refl _)]
  rw [show (l ++ [x]).getD l.length (0, 0, 0) = x from by rw [List.getD_eq_getElem?_getD, List.getElem?_append_right (Nat.le_refl _)]; simp]
  unfold cpB
  rw [ByteArray.append_assoc, ByteArray.append_assoc, ByteArray.append_assoc]
theorem cpB_size (s : Nat × Nat × Nat) : (cpB s).size ≤ 6 := by
  have h1 := ctB_size s.1
  have h2 := ctB_size (s.2.1 - 4)
  have h3 := ctB_size s.2.2
  unfold cpB
  rw [ByteArray.size_append, ByteArray.size_append]; omega
theorem stTo_size (l : List (Nat × Nat × Nat)) (i : Nat) : (stTo l i).size ≤ 6 * i := by
  induction i with
  | zero => exact Nat.le_refl _
  | succ i ih =>
    have := cpB_size (l.getD i (0, 0, 0))
    rw [stTo, ByteArray.size_append]; omega
/-- A record taken apart, on from a place: the loose bytes, the copies. -/
def spS (all : ByteArray) : Nat → Nat → ByteArray → List (Nat × Nat × Nat) → Nat → ByteArray × List (Nat × Nat × Nat)
  | 0, _, lo, st, _ => (lo, st)
  | f + 1, p, lo, st, ah =>
    if p < all.size then
      if (lgTo all p p).1 < 4 then spS all f (p + 1) (lo ++ all.extract p (p + 1)) st (ah + 1)
      else spS all f (p + (lgTo all p p).1) lo (st ++ [(ah, (lgTo all p p).1, (lgTo all p p).2)]) 0
    else (lo, st)
theorem bodS_sp (all : ByteArray) : ∀ f p lo st ah, bodS all f p lo (stTo st st.length) st.length ah = ((spS all f p lo st ah).1, stTo (spS all f p lo st ah).2 (spS all f p lo st ah).2.length, (spS all f p lo st ah).2.length) := by
  intro f
  induction f with
  | zero => intro p lo st ah; rfl
  | succ f ih =>
    intro p lo st ah
    rw [bodS, spS]
    split
    · split
      · exact ih _ _ _ _
      · have := ih (p + (lgTo all p p).1) lo (st ++ [(ah, (lgTo all p p).1, (lgTo all p p).2)]) 0
        rw [stTo_next, List.length_append, List.length_singleton] at this
        exact this
    · rfl
/-- A record taken apart. -/
def spA (c r : ByteArray) : ByteArray × List (Nat × Nat × Nat) := spS (c ++ r) (r.size + 1) c.size ⟨#[]⟩ [] 0
theorem bodA_sp (c r : ByteArray) : bodA c r = ((spA c r).1, stTo (spA c r).2 (spA c r).2.length, (spA c r).2.length) := bodS_sp (c ++ r) (r.size + 1) c.size ⟨#[]⟩ [] 0
/-- The loose bytes as they stand behind their count. -/
def loB (t s : ByteArray) : ByteArray :=
  if (sqAns t s).2 = 0 ∧ (ctB (sqAns t s).1.size).size + (sqAns t s).1.size < s.size then ⟨#[1]⟩ ++ ctB (sqAns t s).1.size ++ (sqAns t s).1 else ⟨#[0]⟩ ++ s
theorem looB_is (t s : ByteArray) : looB t s = ctB s.size ++ loB t s := by
  unfold looB loB
  split
  · rw [ByteArray.append_assoc, ByteArray.append_assoc, ByteArray.append_assoc]
  · rw [ByteArray.append_assoc]
theorem enBody_sp (t c r : ByteArray) : enBody t c r = ctB (spA c r).1.size ++ loB t (spA c r).1 ++ ctB (spA c r).2.length ++ stTo (spA c r).2 (spA c r).2.length := by
  unfold enBody
  rw [bodA_sp, looB_is]


theorem strN_app (a b : List Nat) : strN (a ++ b) = strN a ++ strN b := by
  apply ByteArray.ext
  rw [ByteArray.data_append]
  simp [strN, strOfNums, ints]
theorem strN_snoc (s : ByteArray) (p : Nat) (L : List Nat) (h : p < s.size) : strN (L ++ [btn s p]) = strN L ++ s.extract p (p + 1) := by
  rw [strN_app, ← le_one s p h]
  congr 1
  show strN [btn s p] = strN [btn s p / 256 ^ 0 % 256]
  have := btn_lt s p
  congr 2
  simp; omega
def gStp (s : Nat × Nat × Nat) : Prop := s.1 ≤ 2000 ∧ 4 ≤ s.2.1 ∧ s.2.1 ≤ 2000 ∧ s.2.2 ≤ 2000
theorem spS_bd (all : ByteArray) (c : Nat) (h : all.size ≤ 2000) : ∀ f p lo st ah, c ≤ p → p ≤ all.size → ah ≤ p → lo.size + 4 * st.length ≤ p - c → (∀ s ∈ st, gStp s) →
    (spS all f p lo st ah).1.size + 4 * (spS all f p lo st ah).2.length ≤ all.size - c ∧ ∀ s ∈ (spS all f p lo st ah).2, gStp s := by
  intro f
  induction f with
  | zero => intro p lo st ah h1 h2 h3 h4 h5; exact ⟨by simp only [spS]; omega, h5⟩
  | succ f ih =>
    intro p lo st ah h1 h2 h3 h4 h5
    rw [spS]
    split
    · rename_i hp
      have hl := lgTo_le all p p
      split
      · refine ih _ _ _ _ (by omega) (by omega) (by omega) ?_ h5
        have : (all.extract p (p + 1)).size = 1 := by rw [ext_size _ _ _ (by omega)]; omega
        rw [ByteArray.size_append]; omega
      · refine ih _ _ _ _ (by omega) (by omega) (by omega) ?_ ?_
        · rw [List.length_append, List.length_singleton]; omega
        · intro s hs
          rw [List.mem_append, List.mem_singleton] at hs
          rcases hs with hs | hs
          · exact h5 s hs
          · subst hs
            exact ⟨by simp only; omega, by simp only; omega, by simp only; omega, by simp only; omega⟩
    · exact ⟨by simp only; omega, h5⟩
theorem spA_bd (c r : ByteArray) (hc : c.size ≤ 500) (hr : r.size ≤ 500) : (spA c r).1.size + 4 * (spA c r).2.length ≤ 500 ∧ ∀ s ∈ (spA c r).2, gStp s := by
  have hall : (c ++ r).size = c.size + r.size := ByteArray.size_append
  have e0 : (⟨#[]⟩ : ByteArray).size = 0 := rfl
  have := spS_bd (c ++ r) c.size (by omega) (r.size + 1) c.size ⟨#[]⟩ [] 0 (Nat.le_refl _) (by omega) (by omega) (by simp [e0]) (by simp)
  exact ⟨by have := this.1; show (spS (c ++ r) (r.size + 1) c.size ⟨#[]⟩ [] 0).1.size + _ ≤ 500; unfold spA; omega, this.2⟩
end Go.Proofs.Ytnconbpneimjiaa

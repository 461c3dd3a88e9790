/-
  P5, P6, plain: whose the slots are, which numbers they have.
-/
import Derived.Test.YtjnieekhagmdfaaStrDefs
import Derived.Test.YtjnieekhagmdfaaTabDefs
namespace Go.Proofs.Ytjnieekhagmdfaa
open Go.PlainAid

/-- The row: each value as often as its share says. -/
def rowTo (t : ByteArray) : Nat → List Nat
  | 0 => []
  | k + 1 => rowTo t k ++ List.replicate (btn t (2 * k + 1)) (btn t (2 * k))
/-- The share of a value, by the first k pairs. -/
def shTab (t : ByteArray) : Nat → Nat → Nat
  | 0, _ => 0
  | k + 1, v => if v = btn t (2 * k) then btn t (2 * k + 1) else shTab t k v
/-- Whose a slot is, as far as the row is laid. -/
def ownL (ps : List Nat) (s : Nat) : Nat := ps.getD (3 * s % 64) 0
/-- How many of the slots below s are v's. -/
def cntO (own : Nat → Nat) (v : Nat) : Nat → Nat
  | 0 => 0
  | s + 1 => cntO own v s + if own s = v then 1 else 0
/-- The number of a slot. -/
def numO (own shr : Nat → Nat) (s : Nat) : Nat := shr (own s) + cntO own (own s) s

theorem rowTo_len (t : ByteArray) (k : Nat) : (rowTo t k).length = totS t k := by
  induction k with
  | zero => rfl
  | succ k ih => rw [rowTo, totS, List.length_append, List.length_replicate, ih]
theorem rowTo_lt (t : ByteArray) (k : Nat) : ∀ x ∈ rowTo t k, x < 256 := by
  induction k with
  | zero => intro x hx; simp [rowTo] at hx
  | succ k ih =>
    intro x hx
    rw [rowTo, List.mem_append] at hx
    rcases hx with hx | hx
    · exact ih x hx
    · rw [List.mem_replicate] at hx; rw [hx.2]; exact btn_lt _ _
theorem ownL_lt {ps : List Nat} (h : ∀ x ∈ ps, x < 256) (s : Nat) : ownL ps s < 256 := by
  unfold ownL
  rw [List.getD_eq_getElem?_getD]
  cases hc : ps[3 * s % 64]? with
  | none => simp
  | some x => simp only [Option.getD_some]; exact h x (List.mem_of_getElem? hc)
theorem slot_place : ∀ s, s < 64 → ∀ p, p < 64 → (3 * s % 64 = p ↔ s = 43 * p % 64) := by omega
theorem ownL_push (ps : List Nat) (v s : Nat) (hs : s < 64) (hp : ps.length < 64) : (if s = 43 * ps.length % 64 then v else ownL ps s) = ownL (ps ++ [v]) s := by
  unfold ownL
  rw [List.getD_eq_getElem?_getD, List.getD_eq_getElem?_getD, List.getElem?_append]
  have := slot_place s hs ps.length hp
  by_cases c : s = 43 * ps.length % 64
  · rw [if_pos c]
    have e := this.2 c
    rw [if_neg (by omega), e]
    simp
  · rw [if_neg c]
    have e : 3 * s % 64 ≠ ps.length := fun h => c (this.1 h)
    by_cases d : 3 * s % 64 < ps.length
    · rw [if_pos d]
    · rw [if_neg d, List.getElem?_eq_none (by omega), List.getElem?_eq_none (by simp; omega)]
theorem cntO_le (own : Nat → Nat) (v s : Nat) : cntO own v s ≤ s := by
  induction s with
  | zero => exact Nat.le_refl _
  | succ s ih => rw [cntO]; split <;> omega
theorem shTab_le {t : ByteArray} {k : Nat} (v : Nat) : shTab t k v ≤ 255 := by
  induction k with
  | zero => simp [shTab]
  | succ k ih => rw [shTab]; split
                 · have := btn_lt t (2 * k + 1); omega
                 · exact ih

/-- Whose the slots of a table are; the shares. -/
def tOwn (t : ByteArray) : Nat → Nat := ownL (rowTo t (t.size / 2))
def tShr (t : ByteArray) : Nat → Nat := shTab t (t.size / 2)
def tNum (t : ByteArray) : Nat → Nat := numO (tOwn t) (tShr t)
theorem tOwn_lt (t : ByteArray) (s : Nat) : tOwn t s < 256 := ownL_lt (rowTo_lt t _) s
theorem isTB_yes {t : ByteArray} (h : isTB t = true) : t.size % 2 = 0 ∧ goodTo t (t.size / 2) ∧ totS t (t.size / 2) = 64 := (isTB_iff t).1 h
theorem shTab_step (t : ByteArray) (k v : Nat) : shTab t (k + 1) v = if v = btn t (2 * k) then btn t (2 * k + 1) else shTab t k v := rfl
end Go.Proofs.Ytjnieekhagmdfaa

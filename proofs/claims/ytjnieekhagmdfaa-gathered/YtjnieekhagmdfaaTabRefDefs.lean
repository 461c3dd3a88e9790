/-
  P4, plain: what the document's answer on tables reckons.
-/
import Derived.Test.YtjnieekhagmdfaaTabDefs
namespace Go.Proofs.Ytjnieekhagmdfaa
open Go.PlainAid

/-- Of the values below w, how many stand ahead of v. -/
def aheadTo (l : Nat → Int) (v : Nat) : Nat → Int
  | 0 => 0
  | w + 1 => aheadTo l v w + if l v < l w ∨ (l w = l v ∧ w < v) then 1 else 0
def memB (l : Nat → Int) (v : Nat) : Bool := decide (l v ≠ 0 ∧ aheadTo l v 256 < 32)
def memTo (l : Nat → Int) : Nat → List Nat
  | 0 => []
  | v + 1 => memTo l v ++ if memB l v then [v] else []
def mget (ms : List Nat) (k : Nat) : Nat := ms.getD k 0
def rankTo (l : Nat → Int) (ms : List Nat) (v : Nat) (i : Int) : Nat → Int
  | 0 => 0
  | k + 1 => rankTo l ms v i k + (l (mget ms k) * i - 1) / l v + if mget ms k < v ∧ l (mget ms k) * i % l v = 0 then 1 else 0
def rnk (l : Nat → Int) (ms : List Nat) (v : Nat) (i : Int) : Int := rankTo l ms v i ms.length
/-- The share of v, the first j places looked at. -/
def shTo (l : Nat → Int) (ms : List Nat) (v : Nat) : Nat → Int
  | 0 => 1
  | j + 1 => shTo l ms v j + if rnk l ms v ((j : Int) + 1) < 64 - (ms.length : Int) then 1 else 0
def refOut (l : Nat → Int) (ms : List Nat) : Nat → List Int
  | 0 => []
  | k + 1 => refOut l ms k ++ [(mget ms k : Int), shTo l ms (mget ms k) 63]

theorem ahead_bd (l : Nat → Int) (v k : Nat) : 0 ≤ aheadTo l v k ∧ aheadTo l v k ≤ k := by
  induction k with
  | zero => simp [aheadTo]
  | succ k ih => rw [aheadTo]; split <;> omega
theorem memTo_len (l : Nat → Int) (k : Nat) : (memTo l k).length ≤ k := by
  induction k with
  | zero => simp [memTo]
  | succ k ih => rw [memTo]; split <;> simp <;> omega
theorem memTo_step (l : Nat → Int) (k : Nat) : memTo l (k + 1) = memTo l k ++ if memB l k then [k] else [] := rfl
theorem shTo_bd (l : Nat → Int) (ms : List Nat) (v k : Nat) : 1 ≤ shTo l ms v k ∧ shTo l ms v k ≤ k + 1 := by
  induction k with
  | zero => simp [shTo]
  | succ k ih => rw [shTo]; split <;> omega
theorem refOut_len (l : Nat → Int) (ms : List Nat) (k : Nat) : (refOut l ms k).length = 2 * k := by
  induction k with
  | zero => simp [refOut]
  | succ k ih => rw [refOut]; simp; omega
theorem quo_bd {a i v : Int} (h1 : 1 ≤ a ∧ a ≤ 800) (h2 : 1 ≤ i ∧ i ≤ 63) (h3 : 1 ≤ v) : 1 ≤ a * i ∧ a * i ≤ 50400 ∧ 0 ≤ (a * i - 1) / v ∧ (a * i - 1) / v ≤ 50400 := by
  have e1 : 1 * 1 ≤ a * i := Int.mul_le_mul h1.1 h2.1 (by omega) (by omega)
  have e2 : a * i ≤ 800 * 63 := Int.mul_le_mul h1.2 h2.2 (by omega) (by omega)
  have e3 : 0 ≤ (a * i - 1) / v := Int.ediv_nonneg (by omega) (by omega)
  have e4 : (a * i - 1) / v ≤ a * i - 1 := Int.ediv_le_self _ (by omega)
  omega
theorem rank_bd (l : Nat → Int) (ms : List Nat) (v : Nat) (i : Int) (k : Nat) (hl : ∀ j, j < k → 1 ≤ l (mget ms j) ∧ l (mget ms j) ≤ 800) (hi : 1 ≤ i ∧ i ≤ 63) (hv : 1 ≤ l v) : 0 ≤ rankTo l ms v i k ∧ rankTo l ms v i k ≤ 50401 * k := by
  induction k with
  | zero => simp [rankTo]
  | succ k ih =>
    have := ih (fun j hj => hl j (by omega))
    have q := quo_bd (hl k (by omega)) hi hv
    rw [rankTo]
    split <;> omega
end Go.Proofs.Ytjnieekhagmdfaa

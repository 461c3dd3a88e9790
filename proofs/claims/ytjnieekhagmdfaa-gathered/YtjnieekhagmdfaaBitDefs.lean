/-
  P5, P6, plain: digits and bits.
-/
import Derived.Test.YtjnieekhagmdfaaLayDefs
import Derived.Laws.BytesArg
namespace Go.Proofs.Ytjnieekhagmdfaa
open Go.PlainAid

/-- The lowest i binary digits of n, the highest first. -/
def digB (n : Nat) : Nat → List Nat
  | 0 => []
  | i + 1 => n / 2 ^ i % 2 :: digB n i
theorem digB_len (n i : Nat) : (digB n i).length = i := by
  induction i with
  | zero => rfl
  | succ i ih => simp [digB, ih]
theorem digB_bit (n i : Nat) : ∀ x ∈ digB n i, x < 2 := by
  induction i with
  | zero => intro x hx; simp [digB] at hx
  | succ i ih =>
    intro x hx
    simp only [digB, List.mem_cons] at hx
    rcases hx with rfl | hx
    · exact Nat.mod_lt _ (by omega)
    · exact ih x hx
/-- Bits as signs: 0 and 1. -/
def sgn (bs : List Nat) : List Int := bs.map (fun b : Nat => (48 : Int) + (b : Int))
theorem sgn_append (a b : List Nat) : sgn (a ++ b) = sgn a ++ sgn b := by simp [sgn]
theorem sgn_len (a : List Nat) : (sgn a).length = a.length := by simp [sgn]
theorem str_append (xs ys : List Int) : strOfNums xs ++ strOfNums ys = strOfNums (xs ++ ys) := by
  apply ByteArray.ext
  simp [strOfNums]
theorem str_nil : strOfNums [] = ⟨#[]⟩ := rfl

/-! ### The share of a value, found by looking through the pairs -/
theorem shTab_none {t : ByteArray} {n v : Nat} (h : ∀ j, j < n → btn t (2 * j) ≠ v) : shTab t n v = 0 := by
  induction n with
  | zero => rfl
  | succ n ih => rw [shTab, if_neg (fun e => h n (by omega) e.symm), ih (fun j hj => h j (by omega))]
theorem rising {t : ByteArray} {n : Nat} (h : goodTo t n) {j k : Nat} (hjk : j < k) (hk : k < n) : btn t (2 * j) < btn t (2 * k) := by
  induction k with
  | zero => omega
  | succ k ih =>
    have h2 := (h (k + 1) hk).2
    have e : 2 * (k + 1) - 2 = 2 * k := by omega
    rw [e] at h2
    rcases Nat.lt_or_ge j k with c | c
    · have := ih c (by omega); omega
    · obtain rfl : j = k := by omega
      omega
theorem shTab_hit {t : ByteArray} {n k : Nat} (h : goodTo t n) (hk : k < n) : shTab t n (btn t (2 * k)) = btn t (2 * k + 1) := by
  induction n with
  | zero => omega
  | succ n ih =>
    rw [shTab]
    rcases Nat.lt_or_ge k n with c | c
    · have := rising h c (by omega)
      rw [if_neg (by omega), ih (goodTo_mono h (by omega)) c]
    · obtain rfl : k = n := by omega
      rw [if_pos rfl]

/-! ### How many bits are taken behind a slot -/
def kF : Nat → Nat → Nat
  | 0, _ => 0
  | f + 1, n => if n < 64 then kF f (2 * n) + 1 else 0
/-- The number of times that n must be doubled to come to 64 or more. -/
def kOf (n : Nat) : Nat := kF 7 n
theorem kF_big {f q : Nat} (h : 64 ≤ q) : kF f q = 0 := by
  cases f with
  | zero => rfl
  | succ f => rw [kF, if_neg (by omega)]
theorem kF_small {f q : Nat} (h : q < 64) : kF (f + 1) q = kF f (2 * q) + 1 := by rw [kF, if_pos h]
end Go.Proofs.Ytjnieekhagmdfaa

/-
  P5, P6, plain: tables, slots, numbers, bits. Imports nothing of the program.
-/
import Derived.PlainAid
namespace Go.Proofs.Ytjnieekhagmdfaa
open Go.PlainAid

/-- Byte k of a string, as a natural number. -/
def btn (s : ByteArray) (k : Nat) : Nat := (bt s k).toNat
theorem btn_int (s : ByteArray) (k : Nat) : bt s k = (btn s k : Int) := by have := bt_nonneg s k; unfold btn; omega
theorem btn_lt (s : ByteArray) (k : Nat) : btn s k < 256 := by have := bt_le s k; have := bt_nonneg s k; unfold btn; omega
theorem get_btn (s : ByteArray) : ∀ (n : Nat) (h : n < s.size), ((s[n]'h).toNat : Int) = (btn s n : Int) := fun n h => by rw [get_bt s n h, btn_int]

/-! ### Tables -/
/-- The shares of the first k pairs, together. -/
def totS (t : ByteArray) : Nat → Nat
  | 0 => 0
  | k + 1 => totS t k + btn t (2 * k + 1)
/-- The first k pairs are well made. -/
def goodTo (t : ByteArray) (k : Nat) : Prop := ∀ j, j < k → 1 ≤ btn t (2 * j + 1) ∧ (j = 0 ∨ btn t (2 * j - 2) < btn t (2 * j))
def isTB (t : ByteArray) : Bool := decide (t.size % 2 = 0 ∧ (∀ j, j < t.size / 2 → 1 ≤ btn t (2 * j + 1) ∧ (j = 0 ∨ btn t (2 * j - 2) < btn t (2 * j))) ∧ totS t (t.size / 2) = 64)

/-- The value of the pair ahead of the k-th. -/
def lastV (t : ByteArray) (k : Nat) : Int := if k = 0 then -1 else (btn t (2 * k - 2) : Int)
theorem lastV_succ (t : ByteArray) (k : Nat) : lastV t (k + 1) = (btn t (2 * k) : Int) := by
  unfold lastV; rw [if_neg (by omega), show 2 * (k + 1) - 2 = 2 * k from by omega]
theorem lastV_lt (t : ByteArray) (k : Nat) : lastV t k < (btn t (2 * k) : Int) ↔ (k = 0 ∨ btn t (2 * k - 2) < btn t (2 * k)) := by
  unfold lastV; split <;> omega
theorem goodTo_succ (t : ByteArray) (k : Nat) : goodTo t (k + 1) ↔ goodTo t k ∧ 1 ≤ btn t (2 * k + 1) ∧ (k = 0 ∨ btn t (2 * k - 2) < btn t (2 * k)) := by
  unfold goodTo
  constructor
  · intro h
    exact ⟨fun j hj => h j (by omega), h k (by omega)⟩
  · rintro ⟨h1, h2⟩ j hj
    rcases Nat.lt_or_ge j k with c | c
    · exact h1 j c
    · obtain rfl : j = k := by omega
      exact h2
theorem goodTo_mono {t : ByteArray} {j k : Nat} (h : goodTo t k) (hj : j ≤ k) : goodTo t j := fun i hi => h i (by omega)
theorem totS_ge {t : ByteArray} {k : Nat} (h : goodTo t k) : k ≤ totS t k := by
  induction k with
  | zero => exact Nat.zero_le _
  | succ k ih =>
    have := ih (goodTo_mono h (by omega))
    have := (h k (by omega)).1
    rw [totS]; omega
theorem totS_mono (t : ByteArray) {j k : Nat} (h : j ≤ k) : totS t j ≤ totS t k := by
  induction k with
  | zero => obtain rfl : j = 0 := by omega
            exact Nat.le_refl _
  | succ k ih =>
    rcases Nat.lt_or_ge k j with c | c
    · obtain rfl : j = k + 1 := by omega
      exact Nat.le_refl _
    · have := ih c; rw [totS]; omega
theorem isTB_iff (t : ByteArray) : isTB t = true ↔ t.size % 2 = 0 ∧ goodTo t (t.size / 2) ∧ totS t (t.size / 2) = 64 := decide_eq_true_iff
theorem isTB_not {t : ByteArray} (h : ¬ (t.size % 2 = 0 ∧ goodTo t (t.size / 2) ∧ totS t (t.size / 2) = 64)) : isTB t = false := decide_eq_false h
theorem isTB_odd {t : ByteArray} (h : t.size % 2 ≠ 0) : isTB t = false := isTB_not (fun q => h q.1)
theorem isTB_bad {t : ByteArray} {k : Nat} (hk : k < t.size / 2) (h : ¬ (1 ≤ btn t (2 * k + 1) ∧ (k = 0 ∨ btn t (2 * k - 2) < btn t (2 * k)))) : isTB t = false := by
  refine isTB_not ?_
  rintro ⟨_, h1, _⟩
  exact h (h1 k hk)
theorem isTB_over {t : ByteArray} {k : Nat} (hk : k ≤ t.size / 2) (h : 64 < totS t k) : isTB t = false := by
  refine isTB_not ?_
  rintro ⟨_, _, h2⟩
  have := totS_mono t hk
  omega
theorem isTB_long {t : ByteArray} (h : 128 < t.size) : isTB t = false := by
  refine isTB_not ?_
  rintro ⟨_, h1, h2⟩
  have := totS_ge h1
  omega
theorem isTB_end {t : ByteArray} (h0 : t.size % 2 = 0) (h : goodTo t (t.size / 2)) : isTB t = decide (totS t (t.size / 2) = 64) := by
  rw [Bool.eq_iff_iff, isTB_iff, decide_eq_true_iff]
  exact ⟨fun q => q.2.2, fun q => ⟨h0, h, q⟩⟩
end Go.Proofs.Ytjnieekhagmdfaa

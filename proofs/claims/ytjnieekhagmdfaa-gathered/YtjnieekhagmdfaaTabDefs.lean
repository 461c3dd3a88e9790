/-
  P4, plain: what the functions on tables reckon, as functions on numbers. Imports nothing of the program.
-/
import Derived.PlainAid
namespace Go.Proofs.Ytjnieekhagmdfaa
open Go.PlainAid

/-- How often the value v stands among the first k bytes. -/
def cntTo (s : ByteArray) : Nat → Nat → Int
  | 0, _ => 0
  | k + 1, v => cntTo s k v + if bt s k = (v : Int) then 1 else 0
/-- Another number at one place. -/
def upd (f : Nat → Int) (i : Nat) (x : Int) : Nat → Int := fun j => if j = i then x else f j
/-- The most frequent of the values below v that have no share: the value, the number. -/
def mfTo (tm sh : Nat → Int) : Nat → Nat × Int
  | 0 => (0, 0)
  | v + 1 => if sh v = 0 ∧ (mfTo tm sh v).2 < tm v then (v, tm v) else mfTo tm sh v
/-- The neediest of the values below v that have shares. -/
def ndTo (tm sh : Nat → Int) : Nat → Nat × Bool
  | 0 => (0, false)
  | v + 1 => if sh v = 0 then ndTo tm sh v else if (ndTo tm sh v).2 = false ∨ tm (ndTo tm sh v).1 * sh v < tm v * sh (ndTo tm sh v).1 then (v, true) else ndTo tm sh v
def mf (tm sh : Nat → Int) : Nat × Int := mfTo tm sh 256
def nd (tm sh : Nat → Int) : Nat × Bool := ndTo tm sh 256
/-- The shares behind n rounds of admitting. -/
def admTo (tm : Nat → Int) : Nat → Nat → Int
  | 0 => fun _ => 0
  | n + 1 => if 0 < (mf tm (admTo tm n)).2 then upd (admTo tm n) (mf tm (admTo tm n)).1 1 else admTo tm n
/-- How many were admitted in n rounds. -/
def admN (tm : Nat → Int) : Nat → Int
  | 0 => 0
  | n + 1 => if 0 < (mf tm (admTo tm n)).2 then admN tm n + 1 else admN tm n
/-- The shares behind n rounds of filling. -/
def fillTo (tm sh : Nat → Int) : Nat → Nat → Int
  | 0 => sh
  | n + 1 => upd (fillTo tm sh n) (nd tm (fillTo tm sh n)).1 (fillTo tm sh n (nd tm (fillTo tm sh n)).1 + 1)
/-- The table's bytes, of the values below v. -/
def outTo (sh : Nat → Int) : Nat → List Int
  | 0 => []
  | v + 1 => outTo sh v ++ if 0 < sh v then [(v : Int), sh v] else []

/-- The cells of a tally: the times, the shares, the total. -/
def tallyAt (tm sh : Nat → Int) (tot : Int) (i : Nat) : Int := if i < 256 then tm i else if i < 512 then sh (i - 256) else tot

theorem mul_bd {a b : Int} (h1 : 0 ≤ a ∧ a ≤ 800) (h2 : 0 ≤ b ∧ b ≤ 64) : 0 ≤ a * b ∧ a * b ≤ 51200 := by
  have e1 := Int.mul_nonneg h1.1 h2.1
  have e2 := Int.mul_le_mul h1.2 h2.2 h2.1 (by omega)
  omega
theorem mfTo_hit {tm sh : Nat → Int} {k : Nat} (h1 : sh k = 0) (h2 : (mfTo tm sh k).2 < tm k) : mfTo tm sh (k + 1) = (k, tm k) := by
  rw [mfTo, if_pos ⟨h1, h2⟩]
theorem mfTo_miss {tm sh : Nat → Int} {k : Nat} (_h1 : sh k = 0) (h2 : tm k ≤ (mfTo tm sh k).2) : mfTo tm sh (k + 1) = mfTo tm sh k := by
  rw [mfTo, if_neg (by omega)]
theorem mfTo_pass {tm sh : Nat → Int} {k : Nat} (h1 : ¬ sh k = 0) : mfTo tm sh (k + 1) = mfTo tm sh k := by
  rw [mfTo, if_neg (fun h => h1 h.1)]
theorem cntTo_bd (s : ByteArray) (k v : Nat) : 0 ≤ cntTo s k v ∧ cntTo s k v ≤ k := by
  induction k with
  | zero => simp [cntTo]
  | succ k ih => simp only [cntTo]; split <;> omega
theorem cntTo_upd (s : ByteArray) (k v : Nat) : upd (cntTo s k) (bt s k).toNat (cntTo s k (bt s k).toNat + 1) v = cntTo s (k + 1) v := by
  have b0 := bt_nonneg s k
  simp only [upd, cntTo]
  by_cases c : v = (bt s k).toNat
  · subst c; rw [if_pos rfl, if_pos (by omega)]
  · rw [if_neg c, if_neg (by omega)]; omega
theorem ndTo_lt (tm sh : Nat → Int) (k : Nat) (hk : k < 256) : (ndTo tm sh k).1 < 256 := by
  induction k with
  | zero => simp [ndTo]
  | succ k ih =>
    have := ih (by omega)
    rw [ndTo]
    split
    · exact this
    · split
      · show k < 256; omega
      · exact this
theorem ndTo_step (tm sh : Nat → Int) (k : Nat) : ndTo tm sh (k + 1) = if sh k = 0 then ndTo tm sh k else if (ndTo tm sh k).2 = false ∨ tm (ndTo tm sh k).1 * sh k < tm k * sh (ndTo tm sh k).1 then (k, true) else ndTo tm sh k := rfl
theorem mfTo_lt (tm sh : Nat → Int) (k : Nat) (hk : k ≤ 256) : (mfTo tm sh k).1 < 256 := by
  induction k with
  | zero => simp [mfTo]
  | succ k ih =>
    have := ih (by omega)
    rw [mfTo]
    split
    · show k < 256; omega
    · exact this
theorem mf_lt (tm sh : Nat → Int) : (mf tm sh).1 < 256 := mfTo_lt tm sh 256 (Nat.le_refl _)
theorem nd_lt (tm sh : Nat → Int) : (nd tm sh).1 < 256 := by
  have h := ndTo_lt tm sh 255 (by omega)
  unfold nd
  rw [show 256 = 255 + 1 from rfl, ndTo]
  split
  · exact h
  · split
    · show 255 < 256; omega
    · exact h
theorem admN_bd (tm : Nat → Int) (k : Nat) : 0 ≤ admN tm k ∧ admN tm k ≤ k := by
  induction k with
  | zero => simp [admN]
  | succ k ih => rw [admN]; split <;> omega
theorem admTo_hit (tm : Nat → Int) (k : Nat) (h : 0 < (mf tm (admTo tm k)).2) : admTo tm (k + 1) = upd (admTo tm k) (mf tm (admTo tm k)).1 1 := by rw [admTo, if_pos h]
theorem admN_hit (tm : Nat → Int) (k : Nat) (h : 0 < (mf tm (admTo tm k)).2) : admN tm (k + 1) = admN tm k + 1 := by rw [admN, if_pos h]
theorem admTo_stop (tm : Nat → Int) (k : Nat) (h : ¬ 0 < (mf tm (admTo tm k)).2) (n : Nat) (hn : k ≤ n) : admTo tm n = admTo tm k ∧ admN tm n = admN tm k := by
  induction n with
  | zero => obtain rfl : k = 0 := by omega
            exact ⟨rfl, rfl⟩
  | succ n ih =>
    rcases Nat.lt_or_ge n k with c | c
    · obtain rfl : k = n + 1 := by omega
      exact ⟨rfl, rfl⟩
    · obtain ⟨e1, e2⟩ := ih c
      rw [admTo, admN, e1, if_neg h, if_neg h, e2]
      exact ⟨rfl, rfl⟩
theorem fillTo_step (tm sh : Nat → Int) (n : Nat) : fillTo tm sh (n + 1) = upd (fillTo tm sh n) (nd tm (fillTo tm sh n)).1 (fillTo tm sh n (nd tm (fillTo tm sh n)).1 + 1) := rfl
theorem outTo_len (sh : Nat → Int) (k : Nat) : (outTo sh k).length ≤ 2 * k := by
  induction k with
  | zero => simp [outTo]
  | succ k ih => rw [outTo]; split <;> simp <;> omega
theorem outTo_step (sh : Nat → Int) (k : Nat) : outTo sh (k + 1) = outTo sh k ++ if 0 < sh k then [(k : Int), sh k] else [] := rfl
end Go.Proofs.Ytjnieekhagmdfaa

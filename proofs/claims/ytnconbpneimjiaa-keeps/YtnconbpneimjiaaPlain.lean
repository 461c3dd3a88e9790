/-
  Plain texts, put together: StrDefs, TabDefs, LayDefs, BitDefs, EncDefs, EncMath, DecMath, EncOk, PadMath, EncBack.
-/
import Derived.PlainAid
import Derived.Laws.BytesArg

/-
  P5, P6, plain: tables, slots, numbers, bits. Imports nothing of the program.
-/
namespace Go.Proofs.Ytnconbpneimjiaa
open Go.PlainAid

/-- Byte k of a string, as a natural number. -/
def btn (s : ByteArray) (k : Nat) : Nat := (bt s k).toNat
theorem btn_int (s : ByteArray) (k : Nat) : bt s k = (btn s k : Int) := by have := bt_nonneg s k; unfold btn; omega
theorem btn_lt (s : ByteArray) (k : Nat) : btn s k < 256 := by have := bt_le s k; have := bt_nonneg s k; unfold btn; omega
theorem get_btn (s : ByteArray) : ∀ (n : Nat) (h : n < s.size), ((s[n]'h).toNat : Int) = (btn s n : Int) := fun n h => by rw [get_bt s n h, btn_int]

/-! ### Tables -/
/-- The shares of the first k pairs, together. -/
def totS (t : ByteArray) : Nat → Nat
  | 0 => 0
  | k + 1 => totS t k + btn t (2 * k + 1)
/-- The first k pairs are well made. -/
def goodTo (t : ByteArray) (k : Nat) : Prop := ∀ j, j < k → 1 ≤ btn t (2 * j + 1) ∧ (j = 0 ∨ btn t (2 * j - 2) < btn t (2 * j))
def isTB (t : ByteArray) : Bool := decide (t.size % 2 = 0 ∧ (∀ j, j < t.size / 2 → 1 ≤ btn t (2 * j + 1) ∧ (j = 0 ∨ btn t (2 * j - 2) < btn t (2 * j))) ∧ totS t (t.size / 2) = 64)

/-- The value of the pair ahead of the k-th. -/
def lastV (t : ByteArray) (k : Nat) : Int := if k = 0 then -1 else (btn t (2 * k - 2) : Int)
theorem lastV_succ (t : ByteArray) (k : Nat) : lastV t (k + 1) = (btn t (2 * k) : Int) := by
  unfold lastV; rw [if_neg (by omega), show 2 * (k + 1) - 2 = 2 * k from by omega]
theorem lastV_lt (t : ByteArray) (k : Nat) : lastV t k < (btn t (2 * k) : Int) ↔ (k = 0 ∨ btn t (2 * k - 2) < btn t (2 * k)) := by
  unfold lastV; split <;> omega
theorem goodTo_succ (t : ByteArray) (k : Nat) : goodTo t (k + 1) ↔ goodTo t k ∧ 1 ≤ btn t (2 * k + 1) ∧ (k = 0 ∨ btn t (2 * k - 2) < btn t (2 * k)) := by
  unfold goodTo
  constructor
  · intro h
    exact ⟨fun j hj => h j (by omega), h k (by omega)⟩
  · rintro ⟨h1, h2⟩ j hj
    rcases Nat.lt_or_ge j k with c | c
    · exact h1 j c
    · obtain rfl : j = k := by omega
      exact h2
theorem goodTo_mono {t : ByteArray} {j k : Nat} (h : goodTo t k) (hj : j ≤ k) : goodTo t j := fun i hi => h i (by omega)
theorem totS_ge {t : ByteArray} {k : Nat} (h : goodTo t k) : k ≤ totS t k := by
  induction k with
  | zero => exact Nat.zero_le _
  | succ k ih =>
    have := ih (goodTo_mono h (by omega))
    have := (h k (by omega)).1
    rw [totS]; omega
theorem totS_mono (t : ByteArray) {j k : Nat} (h : j ≤ k) : totS t j ≤ totS t k := by
  induction k with
  | zero => obtain rfl : j = 0 := by omega
            exact Nat.le_refl _
  | succ k ih =>
    rcases Nat.lt_or_ge k j with c | c
    · obtain rfl : j = k + 1 := by omega
      exact Nat.le_refl _
    · have := ih c; rw [totS]; omega
theorem isTB_iff (t : ByteArray) : isTB t = true ↔ t.size % 2 = 0 ∧ goodTo t (t.size / 2) ∧ totS t (t.size / 2) = 64 := decide_eq_true_iff
theorem isTB_not {t : ByteArray} (h : ¬ (t.size % 2 = 0 ∧ goodTo t (t.size / 2) ∧ totS t (t.size / 2) = 64)) : isTB t = false := decide_eq_false h
theorem isTB_odd {t : ByteArray} (h : t.size % 2 ≠ 0) : isTB t = false := isTB_not (fun q => h q.1)
theorem isTB_bad {t : ByteArray} {k : Nat} (hk : k < t.size / 2) (h : ¬ (1 ≤ btn t (2 * k + 1) ∧ (k = 0 ∨ btn t (2 * k - 2) < btn t (2 * k)))) : isTB t = false := by
  refine isTB_not ?_
  rintro ⟨_, h1, _⟩
  exact h (h1 k hk)
theorem isTB_over {t : ByteArray} {k : Nat} (hk : k ≤ t.size / 2) (h : 64 < totS t k) : isTB t = false := by
  refine isTB_not ?_
  rintro ⟨_, _, h2⟩
  have := totS_mono t hk
  omega
theorem isTB_long {t : ByteArray} (h : 128 < t.size) : isTB t = false := by
  refine isTB_not ?_
  rintro ⟨_, h1, h2⟩
  have := totS_ge h1
  omega
theorem isTB_end {t : ByteArray} (h0 : t.size % 2 = 0) (h : goodTo t (t.size / 2)) : isTB t = decide (totS t (t.size / 2) = 64) := by
  rw [Bool.eq_iff_iff, isTB_iff, decide_eq_true_iff]
  exact ⟨fun q => q.2.2, fun q => ⟨h0, h, q⟩⟩
end Go.Proofs.Ytnconbpneimjiaa

/-
  P4, plain: what the functions on tables reckon, as functions on numbers. Imports nothing of the program.
-/
namespace Go.Proofs.Ytnconbpneimjiaa
open Go.PlainAid

/-- How often the value v stands among the first k bytes. -/
def cntTo (s : ByteArray) : Nat → Nat → Int
  | 0, _ => 0
  | k + 1, v => cntTo s k v + if bt s k = (v : Int) then 1 else 0
/-- Another number at one place. -/
def upd (f : Nat → Int) (i : Nat) (x : Int) : Nat → Int := fun j => if j = i then x else f j
/-- The most frequent of the values below v that have no share: the value, the number. -/
def mfTo (tm sh : Nat → Int) : Nat → Nat × Int
  | 0 => (0, 0)
  | v + 1 => if sh v = 0 ∧ (mfTo tm sh v).2 < tm v then (v, tm v) else mfTo tm sh v
/-- The neediest of the values below v that have shares. -/
def ndTo (tm sh : Nat → Int) : Nat → Nat × Bool
  | 0 => (0, false)
  | v + 1 => if sh v = 0 then ndTo tm sh v else if (ndTo tm sh v).2 = false ∨ tm (ndTo tm sh v).1 * sh v < tm v * sh (ndTo tm sh v).1 then (v, true) else ndTo tm sh v
def mf (tm sh : Nat → Int) : Nat × Int := mfTo tm sh 256
def nd (tm sh : Nat → Int) : Nat × Bool := ndTo tm sh 256
/-- The shares behind n rounds of admitting. -/
def admTo (tm : Nat → Int) : Nat → Nat → Int
  | 0 => fun _ => 0
  | n + 1 => if 0 < (mf tm (admTo tm n)).2 then upd (admTo tm n) (mf tm (admTo tm n)).1 1 else admTo tm n
/-- How many were admitted in n rounds. -/
def admN (tm : Nat → Int) : Nat → Int
  | 0 => 0
  | n + 1 => if 0 < (mf tm (admTo tm n)).2 then admN tm n + 1 else admN tm n
/-- The shares behind n rounds of filling. -/
def fillTo (tm sh : Nat → Int) : Nat → Nat → Int
  | 0 => sh
  | n + 1 => upd (fillTo tm sh n) (nd tm (fillTo tm sh n)).1 (fillTo tm sh n (nd tm (fillTo tm sh n)).1 + 1)
/-- The table's bytes, of the values below v. -/
def outTo (sh : Nat → Int) : Nat → List Int
  | 0 => []
  | v + 1 => outTo sh v ++ if 0 < sh v then [(v : Int), sh v] else []

/-- The cells of a tally: the times, the shares, the total. -/
def tallyAt (tm sh : Nat → Int) (tot : Int) (i : Nat) : Int := if i < 256 then tm i else if i < 512 then sh (i - 256) else tot

theorem mul_bd {a b : Int} (h1 : 0 ≤ a ∧ a ≤ 800) (h2 : 0 ≤ b ∧ b ≤ 64) : 0 ≤ a * b ∧ a * b ≤ 51200 := by
  have e1 := Int.mul_nonneg h1.1 h2.1
  have e2 := Int.mul_le_mul h1.2 h2.2 h2.1 (by omega)
  omega
theorem mfTo_hit {tm sh : Nat → Int} {k : Nat} (h1 : sh k = 0) (h2 : (mfTo tm sh k).2 < tm k) : mfTo tm sh (k + 1) = (k, tm k) := by
  rw [mfTo, if_pos ⟨h1, h2⟩]
theorem mfTo_miss {tm sh : Nat → Int} {k : Nat} (_h1 : sh k = 0) (h2 : tm k ≤ (mfTo tm sh k).2) : mfTo tm sh (k + 1) = mfTo tm sh k := by
  rw [mfTo, if_neg (by omega)]
theorem mfTo_pass {tm sh : Nat → Int} {k : Nat} (h1 : ¬ sh k = 0) : mfTo tm sh (k + 1) = mfTo tm sh k := by
  rw [mfTo, if_neg (fun h => h1 h.1)]
theorem cntTo_bd (s : ByteArray) (k v : Nat) : 0 ≤ cntTo s k v ∧ cntTo s k v ≤ k := by
  induction k with
  | zero => simp [cntTo]
  | succ k ih => simp only [cntTo]; split <;> omega
theorem cntTo_upd (s : ByteArray) (k v : Nat) : upd (cntTo s k) (bt s k).toNat (cntTo s k (bt s k).toNat + 1) v = cntTo s (k + 1) v := by
  have b0 := bt_nonneg s k
  simp only [upd, cntTo]
  by_cases c : v = (bt s k).toNat
  · subst c; rw [if_pos rfl, if_pos (by omega)]
  · rw [if_neg c, if_neg (by omega)]; omega
theorem ndTo_lt (tm sh : Nat → Int) (k : Nat) (hk : k < 256) : (ndTo tm sh k).1 < 256 := by
  induction k with
  | zero => simp [ndTo]
  | succ k ih =>
    have := ih (by omega)
    rw [ndTo]
    split
    · exact this
    · split
      · show k < 256; omega
      · exact this
theorem ndTo_step (tm sh : Nat → Int) (k : Nat) : ndTo tm sh (k + 1) = if sh k = 0 then ndTo tm sh k else if (ndTo tm sh k).2 = false ∨ tm (ndTo tm sh k).1 * sh k < tm k * sh (ndTo tm sh k).1 then (k, true) else ndTo tm sh k := rfl
theorem mfTo_lt (tm sh : Nat → Int) (k : Nat) (hk : k ≤ 256) : (mfTo tm sh k).1 < 256 := by
  induction k with
  | zero => simp [mfTo]
  | succ k ih =>
    have := ih (by omega)
    rw [mfTo]
    split
    · show k < 256; omega
    · exact this
theorem mf_lt (tm sh : Nat → Int) : (mf tm sh).1 < 256 := mfTo_lt tm sh 256 (Nat.le_refl _)
theorem nd_lt (tm sh : Nat → Int) : (nd tm sh).1 < 256 := by
  have h := ndTo_lt tm sh 255 (by omega)
  unfold nd
  rw [show 256 = 255 + 1 from rfl, ndTo]
  split
  · exact h
  · split
    · show 255 < 256; omega
    · exact h
theorem admN_bd (tm : Nat → Int) (k : Nat) : 0 ≤ admN tm k ∧ admN tm k ≤ k := by
  induction k with
  | zero => simp [admN]
  | succ k ih => rw [admN]; split <;> omega
theorem admTo_hit (tm : Nat → Int) (k : Nat) (h : 0 < (mf tm (admTo tm k)).2) : admTo tm (k + 1) = upd (admTo tm k) (mf tm (admTo tm k)).1 1 := by rw [admTo, if_pos h]
theorem admN_hit (tm : Nat → Int) (k : Nat) (h : 0 < (mf tm (admTo tm k)).2) : admN tm (k + 1) = admN tm k + 1 := by rw [admN, if_pos h]
theorem admTo_stop (tm : Nat → Int) (k : Nat) (h : ¬ 0 < (mf tm (admTo tm k)).2) (n : Nat) (hn : k ≤ n) : admTo tm n = admTo tm k ∧ admN tm n = admN tm k := by
  induction n with
  | zero => obtain rfl : k = 0 := by omega
            exact ⟨rfl, rfl⟩
  | succ n ih =>
    rcases Nat.lt_or_ge n k with c | c
    · obtain rfl : k = n + 1 := by omega
      exact ⟨rfl, rfl⟩
    · obtain ⟨e1, e2⟩ := ih c
      rw [admTo, admN, e1, if_neg h, if_neg h, e2]
      exact ⟨rfl, rfl⟩
theorem fillTo_step (tm sh : Nat → Int) (n : Nat) : fillTo tm sh (n + 1) = upd (fillTo tm sh n) (nd tm (fillTo tm sh n)).1 (fillTo tm sh n (nd tm (fillTo tm sh n)).1 + 1) := rfl
theorem outTo_len (sh : Nat → Int) (k : Nat) : (outTo sh k).length ≤ 2 * k := by
  induction k with
  | zero => simp [outTo]
  | succ k ih => rw [outTo]; split <;> simp <;> omega
theorem outTo_step (sh : Nat → Int) (k : Nat) : outTo sh (k + 1) = outTo sh k ++ if 0 < sh k then [(k : Int), sh k] else [] := rfl
end Go.Proofs.Ytnconbpneimjiaa

/-
  P5, P6, plain: whose the slots are, which numbers they have.
-/
namespace Go.Proofs.Ytnconbpneimjiaa
open Go.PlainAid

/-- The row: each value as often as its share says. -/
def rowTo (t : ByteArray) : Nat → List Nat
  | 0 => []
  | k + 1 => rowTo t k ++ List.replicate (btn t (2 * k + 1)) (btn t (2 * k))
/-- The share of a value, by the first k pairs. -/
def shTab (t : ByteArray) : Nat → Nat → Nat
  | 0, _ => 0
  | k + 1, v => if v = btn t (2 * k) then btn t (2 * k + 1) else shTab t k v
/-- Whose a slot is, as far as the row is laid. -/
def ownL (ps : List Nat) (s : Nat) : Nat := ps.getD (3 * s % 64) 0
/-- How many of the slots below s are v's. -/
def cntO (own : Nat → Nat) (v : Nat) : Nat → Nat
  | 0 => 0
  | s + 1 => cntO own v s + if own s = v then 1 else 0
/-- The number of a slot. -/
def numO (own shr : Nat → Nat) (s : Nat) : Nat := shr (own s) + cntO own (own s) s

theorem rowTo_len (t : ByteArray) (k : Nat) : (rowTo t k).length = totS t k := by
  induction k with
  | zero => rfl
  | succ k ih => rw [rowTo, totS, List.length_append, List.length_replicate, ih]
theorem rowTo_lt (t : ByteArray) (k : Nat) : ∀ x ∈ rowTo t k, x < 256 := by
  induction k with
  | zero => intro x hx; simp [rowTo] at hx
  | succ k ih =>
    intro x hx
    rw [rowTo, List.mem_append] at hx
    rcases hx with hx | hx
    · exact ih x hx
    · rw [List.mem_replicate] at hx; rw [hx.2]; exact btn_lt _ _
theorem ownL_lt {ps : List Nat} (h : ∀ x ∈ ps, x < 256) (s : Nat) : ownL ps s < 256 := by
  unfold ownL
  rw [List.getD_eq_getElem?_getD]
  cases hc : ps[3 * s % 64]? with
  | none => simp
  | some x => simp only [Option.getD_some]; exact h x (List.mem_of_getElem? hc)
theorem slot_place : ∀ s, s < 64 → ∀ p, p < 64 → (3 * s % 64 = p ↔ s = 43 * p % 64) := by omega
theorem ownL_push (ps : List Nat) (v s : Nat) (hs : s < 64) (hp : ps.length < 64) : (if s = 43 * ps.length % 64 then v else ownL ps s) = ownL (ps ++ [v]) s := by
  unfold ownL
  rw [List.getD_eq_getElem?_getD, List.getD_eq_getElem?_getD, List.getElem?_append]
  have := slot_place s hs ps.length hp
  by_cases c : s = 43 * ps.length % 64
  · rw [if_pos c]
    have e := this.2 c
    rw [if_neg (by omega), e]
    simp
  · rw [if_neg c]
    have e : 3 * s % 64 ≠ ps.length := fun h => c (this.1 h)
    by_cases d : 3 * s % 64 < ps.length
    · rw [if_pos d]
    · rw [if_neg d, List.getElem?_eq_none (by omega), List.getElem?_eq_none (by simp; omega)]
theorem cntO_le (own : Nat → Nat) (v s : Nat) : cntO own v s ≤ s := by
  induction s with
  | zero => exact Nat.le_refl _
  | succ s ih => rw [cntO]; split <;> omega
theorem shTab_le {t : ByteArray} {k : Nat} (v : Nat) : shTab t k v ≤ 255 := by
  induction k with
  | zero => simp [shTab]
  | succ k ih => rw [shTab]; split
                 · have := btn_lt t (2 * k + 1); omega
                 · exact ih

/-- Whose the slots of a table are; the shares. -/
def tOwn (t : ByteArray) : Nat → Nat := ownL (rowTo t (t.size / 2))
def tShr (t : ByteArray) : Nat → Nat := shTab t (t.size / 2)
def tNum (t : ByteArray) : Nat → Nat := numO (tOwn t) (tShr t)
theorem tOwn_lt (t : ByteArray) (s : Nat) : tOwn t s < 256 := ownL_lt (rowTo_lt t _) s
theorem isTB_yes {t : ByteArray} (h : isTB t = true) : t.size % 2 = 0 ∧ goodTo t (t.size / 2) ∧ totS t (t.size / 2) = 64 := (isTB_iff t).1 h
theorem shTab_step (t : ByteArray) (k v : Nat) : shTab t (k + 1) v = if v = btn t (2 * k) then btn t (2 * k + 1) else shTab t k v := rfl
end Go.Proofs.Ytnconbpneimjiaa

/-
  P5, P6, plain: digits and bits.
-/
namespace Go.Proofs.Ytnconbpneimjiaa
open Go.PlainAid

/-- The lowest i binary digits of n, the highest first. -/
def digB (n : Nat) : Nat → List Nat
  | 0 => []
  | i + 1 => n / 2 ^ i % 2 :: digB n i
theorem digB_len (n i : Nat) : (digB n i).length = i := by
  induction i with
  | zero => rfl
  | succ i ih => simp [digB, ih]
theorem digB_bit (n i : Nat) : ∀ x ∈ digB n i, x < 2 := by
  induction i with
  | zero => intro x hx; simp [digB] at hx
  | succ i ih =>
    intro x hx
    simp only [digB, List.mem_cons] at hx
    rcases hx with rfl | hx
    · exact Nat.mod_lt _ (by omega)
    · exact ih x hx
/-- Bits as signs: 0 and 1. -/
def sgn (bs : List Nat) : List Int := bs.map (fun b : Nat => (48 : Int) + (b : Int))
theorem sgn_append (a b : List Nat) : sgn (a ++ b) = sgn a ++ sgn b := by simp [sgn]
theorem sgn_len (a : List Nat) : (sgn a).length = a.length := by simp [sgn]
theorem str_append (xs ys : List Int) : strOfNums xs ++ strOfNums ys = strOfNums (xs ++ ys) := by
  apply ByteArray.ext
  simp [strOfNums]
theorem str_nil : strOfNums [] = ⟨#[]⟩ := rfl

/-! ### The share of a value, found by looking through the pairs -/
theorem shTab_none {t : ByteArray} {n v : Nat} (h : ∀ j, j < n → btn t (2 * j) ≠ v) : shTab t n v = 0 := by
  induction n with
  | zero => rfl
  | succ n ih => rw [shTab, if_neg (fun e => h n (by omega) e.symm), ih (fun j hj => h j (by omega))]
theorem rising {t : ByteArray} {n : Nat} (h : goodTo t n) {j k : Nat} (hjk : j < k) (hk : k < n) : btn t (2 * j) < btn t (2 * k) := by
  induction k with
  | zero => omega
  | succ k ih =>
    have h2 := (h (k + 1) hk).2
    have e : 2 * (k + 1) - 2 = 2 * k := by omega
    rw [e] at h2
    rcases Nat.lt_or_ge j k with c | c
    · have := ih c (by omega); omega
    · obtain rfl : j = k := by omega
      omega
theorem shTab_hit {t : ByteArray} {n k : Nat} (h : goodTo t n) (hk : k < n) : shTab t n (btn t (2 * k)) = btn t (2 * k + 1) := by
  induction n with
  | zero => omega
  | succ n ih =>
    rw [shTab]
    rcases Nat.lt_or_ge k n with c | c
    · have := rising h c (by omega)
      rw [if_neg (by omega), ih (goodTo_mono h (by omega)) c]
    · obtain rfl : k = n := by omega
      rw [if_pos rfl]

/-! ### How many bits are taken behind a slot -/
def kF : Nat → Nat → Nat
  | 0, _ => 0
  | f + 1, n => if n < 64 then kF f (2 * n) + 1 else 0
/-- The number of times that n must be doubled to come to 64 or more. -/
def kOf (n : Nat) : Nat := kF 7 n
theorem kF_big {f q : Nat} (h : 64 ≤ q) : kF f q = 0 := by
  cases f with
  | zero => rfl
  | succ f => rw [kF, if_neg (by omega)]
theorem kF_small {f q : Nat} (h : q < 64) : kF (f + 1) q = kF f (2 * q) + 1 := by rw [kF, if_pos h]
end Go.Proofs.Ytnconbpneimjiaa

/-
  P5, P6, plain: streams: what is written, what is read.
-/
namespace Go.Proofs.Ytnconbpneimjiaa
open Go.PlainAid

/-- How often m is halved till it is below twice q. -/
def jF (q : Nat) : Nat → Nat → Nat
  | 0, _ => 0
  | f + 1, m => if m < 2 * q then 0 else jF q f (m / 2) + 1
def jOf (m q : Nat) : Nat := jF q 7 m
/-- The slot of v that has this number. -/
def slotOf (own num : Nat → Nat) (v n : Nat) : Nat := ((List.range 64).find? (fun s => own s == v && num s == n)).getD 0
/-- One byte, ahead of the slot 'at': its slot, its bits. -/
def stJ (t : ByteArray) (v a : Nat) : Nat := jOf (64 + a) (tShr t v)
def stS (t : ByteArray) (v a : Nat) : Nat := slotOf (tOwn t) (tNum t) v ((64 + a) / 2 ^ stJ t v a)
def stB (t : ByteArray) (v a : Nat) : List Nat := digB (64 + a) (stJ t v a)
/-- The last c bytes of s: the slot ahead of them, their bits. -/
def encT (t s : ByteArray) : Nat → Nat × List Nat
  | 0 => (0, [])
  | c + 1 => (stS t (btn s (s.size - 1 - c)) (encT t s c).1, stB t (btn s (s.size - 1 - c)) (encT t s c).1 ++ (encT t s c).2)
/-- All bits of s. -/
def encB (t s : ByteArray) : List Nat := digB (encT t s s.size).1 6 ++ (encT t s s.size).2
/-- Has every byte a share? -/
def allSh (t s : ByteArray) : Bool := decide (∀ i, i < s.size → 1 ≤ tShr t (btn s i))

/-- The value of n bits from a place on. -/
def valF (f : Nat → Nat) (a : Nat) : Nat → Nat
  | 0 => 0
  | n + 1 => 2 * valF f a n + f (a + n)
/-- Bit i of a list; of a text. -/
def bl (l : List Nat) (i : Nat) : Nat := l.getD i 0
def bitF (s : ByteArray) (i : Nat) : Nat := btn s (i / 8) / 2 ^ (7 - i % 8) % 2
/-- The bits, closed. -/
def padL (b : List Nat) : List Nat := b ++ 1 :: List.replicate (7 - b.length % 8) 0
def packL (b : List Nat) : List Nat := (List.range (b.length / 8 + 1)).map (fun k => valF (bl (padL b)) (8 * k) 8)
def ints (l : List Nat) : List Int := l.map (fun x : Nat => (x : Int))
def strN (l : List Nat) : ByteArray := strOfNums (ints l)
/-- What Squeeze answers of a table. -/
def sqz (t s : ByteArray) : ByteArray × Bool := if allSh t s then (strN (packL (encB t s)), true) else (⟨#[]⟩, false)

/-- The slot and the place behind n bytes. -/
def decT (t s : ByteArray) : Nat → Nat × Nat
  | 0 => (valF (bitF s) 0 6, 6)
  | n + 1 => (tNum t (decT t s n).1 * 2 ^ kOf (tNum t (decT t s n).1) + valF (bitF s) (decT t s n).2 (kOf (tNum t (decT t s n).1)) - 64, (decT t s n).2 + kOf (tNum t (decT t s n).1))
/-- The n bytes. -/
def outT (t s : ByteArray) : Nat → List Nat
  | 0 => []
  | n + 1 => outT t s n ++ [tOwn t (decT t s n).1]
/-- How many zeros stand at the end of a byte. -/
def tzF : Nat → Nat → Nat
  | 0, _ => 0
  | f + 1, x => if x % 2 = 0 then tzF f (x / 2) + 1 else 0
/-- How many bits stand ahead of the closing 1, plus 1; 0: there is none. -/
def endS (s : ByteArray) : Nat := if s.size = 0 ∨ btn s (s.size - 1) = 0 then 0 else 8 * s.size - tzF 8 (btn s (s.size - 1))
/-- What Read answers. -/
def rdOk (t s : ByteArray) (n : Nat) : Bool := decide (7 ≤ endS s ∧ (decT t s n).1 = 0 ∧ (decT t s n).2 + 1 = endS s)
def rd (t s : ByteArray) (n : Nat) : ByteArray × Bool := if rdOk t s n then (strN (outT t s n), true) else (⟨#[]⟩, false)
end Go.Proofs.Ytnconbpneimjiaa

/-
  P5, P6, plain: the ranges behind a value's slots fill 64 to 127; reading is the inverse of writing.
-/
namespace Go.Proofs.Ytnconbpneimjiaa
open Go.PlainAid

/-! ### Counting slots -/
def sumM (f : Nat → Nat) : Nat → Nat
  | 0 => 0
  | n + 1 => sumM f n + f n
theorem cntO_sum (own : Nat → Nat) (v s : Nat) : cntO own v s = sumM (fun i => if own i = v then 1 else 0) s := by
  induction s with
  | zero => rfl
  | succ s ih => rw [cntO, sumM, ih]
set_option maxRecDepth 100000 in
theorem sumM_perm (f : Nat → Nat) : sumM (fun s => f (3 * s % 64)) 64 = sumM f 64 := by
  simp only [sumM]
  simp only [Nat.reduceMul, Nat.reduceMod]
  omega
theorem sumM_take (l : List Nat) (v k : Nat) (hk : k ≤ l.length) : sumM (fun p => if l.getD p 0 = v then 1 else 0) k = (l.take k).count v := by
  induction k with
  | zero => rfl
  | succ k ih =>
    rw [sumM, ih (by omega), List.take_succ_eq_append_getElem (by omega), List.count_append]
    have : l.getD k 0 = l[k] := by rw [List.getD_eq_getElem?_getD, List.getElem?_eq_getElem (by omega)]; rfl
    rw [this, List.count_singleton]
    simp only [beq_iff_eq]
theorem count_row {t : ByteArray} {k : Nat} (h : goodTo t k) (v : Nat) : (rowTo t k).count v = shTab t k v := by
  induction k with
  | zero => rfl
  | succ k ih =>
    have hk := ih (goodTo_mono h (by omega))
    rw [rowTo, List.count_append, hk, List.count_replicate, shTab]
    by_cases c : v = btn t (2 * k)
    · rw [if_pos c]
      have : shTab t k v = 0 := shTab_none (fun j hj e => by have := rising h hj (by omega); omega)
      rw [this]; simp [c]
    · rw [if_neg c]
      have : (btn t (2 * k) == v) = false := by simp; omega
      rw [this]; simp

structure TOk (t : ByteArray) : Prop where
  cnt : ∀ v, cntO (tOwn t) v 64 = tShr t v
  one : ∀ s, s < 64 → 1 ≤ tShr t (tOwn t s)
  le : ∀ v, tShr t v ≤ 64

theorem cntO_le2 (own : Nat → Nat) (v : Nat) {a b : Nat} (h : a ≤ b) : cntO own v a ≤ cntO own v b := by
  induction b with
  | zero => obtain rfl : a = 0 := by omega
            exact Nat.le_refl _
  | succ b ih =>
    rcases Nat.lt_or_ge b a with c | c
    · obtain rfl : a = b + 1 := by omega
      exact Nat.le_refl _
    · have := ih c; rw [cntO]; omega
theorem cntO_lt (own : Nat → Nat) (v : Nat) {a b : Nat} (h : a < b) (ha : own a = v) : cntO own v a < cntO own v b := by
  have := cntO_le2 own v (a := a + 1) (b := b) h
  rw [cntO, if_pos ha] at this
  omega
theorem tok {t : ByteArray} (h : isTB t = true) : TOk t := by
  obtain ⟨hev, hgood, htot⟩ := isTB_yes h
  have hlen : (rowTo t (t.size / 2)).length = 64 := by rw [rowTo_len, htot]
  have hc : ∀ v, cntO (tOwn t) v 64 = tShr t v := by
    intro v
    rw [cntO_sum]
    show sumM (fun s => if (rowTo t (t.size / 2)).getD (3 * s % 64) 0 = v then 1 else 0) 64 = _
    rw [sumM_perm (fun p => if (rowTo t (t.size / 2)).getD p 0 = v then 1 else 0), sumM_take _ v 64 (by omega), ← hlen, List.take_length, count_row hgood]
    rfl
  refine ⟨hc, fun s hs => ?_, fun v => ?_⟩
  · rw [← hc]
    have := cntO_lt (tOwn t) (tOwn t s) hs rfl
    omega
  · rw [← hc]; exact cntO_le _ _ _

theorem cnt_find (own : Nat → Nat) (v n r : Nat) (h : r < cntO own v n) : ∃ s, s < n ∧ own s = v ∧ cntO own v s = r := by
  induction n with
  | zero => simp [cntO] at h
  | succ n ih =>
    rw [cntO] at h
    by_cases c : r < cntO own v n
    · obtain ⟨s, h1, h2⟩ := ih c
      exact ⟨s, by omega, h2⟩
    · by_cases d : own n = v
      · rw [if_pos d] at h
        exact ⟨n, by omega, d, by omega⟩
      · rw [if_neg d] at h; omega

theorem TOk.num_bd {t : ByteArray} (h : TOk t) {s : Nat} (hs : s < 64) : tShr t (tOwn t s) ≤ tNum t s ∧ tNum t s < 2 * tShr t (tOwn t s) := by
  have := cntO_lt (tOwn t) (tOwn t s) hs rfl
  rw [h.cnt] at this
  unfold tNum numO; omega
theorem num_inj {t : ByteArray} {a b : Nat} (ho : tOwn t a = tOwn t b) (hn : tNum t a = tNum t b) : a = b := by
  unfold tNum numO at hn
  rw [ho] at hn
  rcases Nat.lt_trichotomy a b with c | c | c
  · have := cntO_lt (tOwn t) (tOwn t b) c ho; omega
  · exact c
  · have := cntO_lt (tOwn t) (tOwn t b) c rfl; omega
theorem TOk.find {t : ByteArray} (h : TOk t) {v n : Nat} (h1 : tShr t v ≤ n) (h2 : n < 2 * tShr t v) : ∃ s, s < 64 ∧ tOwn t s = v ∧ tNum t s = n := by
  obtain ⟨s, a, b, c⟩ := cnt_find (tOwn t) v 64 (n - tShr t v) (by rw [h.cnt]; omega)
  refine ⟨s, a, b, ?_⟩
  unfold tNum numO
  rw [b, c]; omega
theorem slot_self {t : ByteArray} {s : Nat} (hs : s < 64) : slotOf (tOwn t) (tNum t) (tOwn t s) (tNum t s) = s := by
  unfold slotOf
  cases hf : (List.range 64).find? (fun x => tOwn t x == tOwn t s && tNum t x == tNum t s) with
  | none =>
    rw [List.find?_eq_none] at hf
    have := hf s (List.mem_range.2 hs)
    simp at this
  | some x =>
    have h1 := List.find?_some hf
    simp only [Bool.and_eq_true, beq_iff_eq] at h1
    exact num_inj h1.1 h1.2

/-! ### Halving and doubling -/
theorem kOf_cases {n : Nat} (h1 : 1 ≤ n) : (kOf n = 0 ∧ 64 ≤ n) ∨ (kOf n = 1 ∧ 32 ≤ n ∧ n < 64) ∨ (kOf n = 2 ∧ 16 ≤ n ∧ n < 32) ∨ (kOf n = 3 ∧ 8 ≤ n ∧ n < 16) ∨ (kOf n = 4 ∧ 4 ≤ n ∧ n < 8) ∨ (kOf n = 5 ∧ 2 ≤ n ∧ n < 4) ∨ (kOf n = 6 ∧ n = 1) := by
  unfold kOf
  simp only [kF]
  repeat' split
  all_goals omega
theorem jOf_cases {m q : Nat} (h1 : 64 ≤ m) (h2 : m < 128) (h3 : 1 ≤ q) : (jOf m q = 0 ∧ m < 2 * q) ∨ (jOf m q = 1 ∧ 2 * q ≤ m ∧ m / 2 < 2 * q) ∨ (jOf m q = 2 ∧ 2 * q ≤ m / 2 ∧ m / 4 < 2 * q) ∨ (jOf m q = 3 ∧ 2 * q ≤ m / 4 ∧ m / 8 < 2 * q) ∨ (jOf m q = 4 ∧ 2 * q ≤ m / 8 ∧ m / 16 < 2 * q) ∨ (jOf m q = 5 ∧ 2 * q ≤ m / 16 ∧ m / 32 < 2 * q) ∨ (jOf m q = 6 ∧ 2 * q ≤ m / 32 ∧ m / 64 < 2 * q) := by
  unfold jOf
  simp only [jF, Nat.div_div_eq_div_mul, Nat.reduceMul]
  repeat' split
  all_goals omega
/-- Behind m, halved: the number lies in q .. 2q - 1, and is doubled as often again. -/
theorem half_spec {m q : Nat} (h1 : 64 ≤ m) (h2 : m < 128) (h3 : 1 ≤ q) (h4 : q ≤ 64) : q ≤ m / 2 ^ jOf m q ∧ m / 2 ^ jOf m q < 2 * q ∧ kOf (m / 2 ^ jOf m q) = jOf m q ∧ jOf m q ≤ 6 := by
  have hj := jOf_cases h1 h2 h3
  generalize jOf m q = j at *
  rcases hj with ⟨rfl, a⟩ | ⟨rfl, a, b⟩ | ⟨rfl, a, b⟩ | ⟨rfl, a, b⟩ | ⟨rfl, a, b⟩ | ⟨rfl, a, b⟩ | ⟨rfl, a, b⟩
  all_goals
    simp only [Nat.reducePow]
    refine ⟨by omega, by omega, ?_, by omega⟩
    first
      | (have hk := kOf_cases (n := m / 1) (by omega); omega)
      | (have hk := kOf_cases (n := m / 2) (by omega); omega)
      | (have hk := kOf_cases (n := m / 4) (by omega); omega)
      | (have hk := kOf_cases (n := m / 8) (by omega); omega)
      | (have hk := kOf_cases (n := m / 16) (by omega); omega)
      | (have hk := kOf_cases (n := m / 32) (by omega); omega)
      | (have hk := kOf_cases (n := m / 64) (by omega); omega)
/-- Behind a number n of q .. 2q - 1 and its bits: the same the other way round. -/
theorem double_spec {n q b : Nat} (h1 : 1 ≤ q) (h2 : q ≤ 64) (h3 : q ≤ n) (h4 : n < 2 * q) (hb : b < 2 ^ kOf n) :
    64 ≤ n * 2 ^ kOf n + b ∧ n * 2 ^ kOf n + b < 128 ∧ (n * 2 ^ kOf n + b) / 2 ^ kOf n = n ∧ jOf (n * 2 ^ kOf n + b) q = kOf n := by
  have hk := kOf_cases (n := n) (by omega)
  generalize kOf n = k at *
  rcases hk with ⟨rfl, a⟩ | ⟨rfl, a, c⟩ | ⟨rfl, a, c⟩ | ⟨rfl, a, c⟩ | ⟨rfl, a, c⟩ | ⟨rfl, a, c⟩ | ⟨rfl, a⟩
  all_goals
    simp only [Nat.reducePow] at hb ⊢
    refine ⟨by omega, by omega, by omega, ?_⟩
    first
      | (have hj := jOf_cases (m := n * 1 + b) (q := q) (by omega) (by omega) h1; omega)
      | (have hj := jOf_cases (m := n * 2 + b) (q := q) (by omega) (by omega) h1; omega)
      | (have hj := jOf_cases (m := n * 4 + b) (q := q) (by omega) (by omega) h1; omega)
      | (have hj := jOf_cases (m := n * 8 + b) (q := q) (by omega) (by omega) h1; omega)
      | (have hj := jOf_cases (m := n * 16 + b) (q := q) (by omega) (by omega) h1; omega)
      | (have hj := jOf_cases (m := n * 32 + b) (q := q) (by omega) (by omega) h1; omega)
      | (have hj := jOf_cases (m := n * 64 + b) (q := q) (by omega) (by omega) h1; omega)

/-! ### Bits and values -/
theorem valF_lt {f : Nat → Nat} (hf : ∀ i, f i < 2) (a n : Nat) : valF f a n < 2 ^ n := by
  induction n with
  | zero => simp [valF]
  | succ n ih => have := hf (a + n); rw [valF, Nat.pow_succ]; omega
theorem valF_congr {f g : Nat → Nat} {a b n : Nat} (h : ∀ i, i < n → f (a + i) = g (b + i)) : valF f a n = valF g b n := by
  induction n with
  | zero => rfl
  | succ n ih => rw [valF, valF, ih (fun i hi => h i (by omega)), h n (by omega)]
/-- The bits of f from a on, as a list. -/
def bitsOf (f : Nat → Nat) (a n : Nat) : List Nat := (List.range n).map (fun i => f (a + i))
theorem bitsOf_len (f : Nat → Nat) (a n : Nat) : (bitsOf f a n).length = n := by simp [bitsOf]
theorem bitsOf_get (f : Nat → Nat) (a n i : Nat) (h : i < n) : (bitsOf f a n).getD i 0 = f (a + i) := by
  simp [bitsOf, List.getD_eq_getElem?_getD, h]
theorem bitsOf_append (f : Nat → Nat) (a n m : Nat) : bitsOf f a (n + m) = bitsOf f a n ++ bitsOf f (a + n) m := by
  simp only [bitsOf, List.range_add, List.map_append, List.map_map]
  congr 1
  apply List.map_congr_left
  intro i _
  simp [Nat.add_assoc]
theorem digB_get (n k i : Nat) (h : i < k) : (digB n k).getD i 0 = n / 2 ^ (k - 1 - i) % 2 := by
  induction k generalizing i with
  | zero => omega
  | succ k ih =>
    rw [digB]
    cases i with
    | zero => simp
    | succ i =>
      rw [List.getD_cons_succ, ih i (by omega)]
      congr 3
      omega
theorem getD_ext {a b : List Nat} (hl : a.length = b.length) (h : ∀ i, i < a.length → a.getD i 0 = b.getD i 0) : a = b := by
  apply List.ext_getElem hl
  intro i h1 h2
  have := h i h1
  rw [List.getD_eq_getElem?_getD, List.getD_eq_getElem?_getD, List.getElem?_eq_getElem h1, List.getElem?_eq_getElem h2] at this
  simpa using this
theorem valF_bit {f : Nat → Nat} (hf : ∀ i, f i < 2) (a n i : Nat) (h : i < n) : valF f a n / 2 ^ (n - 1 - i) % 2 = f (a + i) := by
  induction n with
  | zero => omega
  | succ n ih =>
    rw [valF]
    have hb := hf (a + n)
    rcases Nat.lt_or_ge i n with c | c
    · have e : n + 1 - 1 - i = (n - 1 - i) + 1 := by omega
      rw [e, Nat.pow_succ, Nat.mul_comm (2 ^ (n - 1 - i)) 2, ← Nat.div_div_eq_div_mul, show (2 * valF f a n + f (a + n)) / 2 = valF f a n from by omega]
      exact ih c
    · obtain rfl : i = n := by omega
      rw [show i + 1 - 1 - i = 0 from by omega]
      simp; omega
theorem digB_valF {f : Nat → Nat} (hf : ∀ i, f i < 2) (a n : Nat) : digB (valF f a n) n = bitsOf f a n := by
  refine getD_ext (by rw [digB_len, bitsOf_len]) fun i hi => ?_
  rw [digB_len] at hi
  rw [digB_get _ _ _ hi, bitsOf_get _ _ _ _ hi, valF_bit hf a n i hi]
theorem digB_mod (n m k : Nat) : digB (m * 2 ^ k + n) k = digB n k := by
  refine getD_ext (by rw [digB_len, digB_len]) fun i hi => ?_
  rw [digB_len] at hi
  rw [digB_get _ _ _ hi, digB_get _ _ _ hi]
  have e : 2 ^ k = 2 ^ (k - 1 - i) * (2 * 2 ^ i) := by
    rw [← Nat.pow_succ', ← Nat.pow_add]; congr 1; omega
  rw [e, ← Nat.mul_assoc, Nat.mul_comm m, Nat.mul_assoc, Nat.add_comm, Nat.add_mul_div_left _ _ (Nat.two_pow_pos _)]
  rw [show m * (2 * 2 ^ i) = 2 * (m * 2 ^ i) from by rw [← Nat.mul_assoc, Nat.mul_comm m 2, Nat.mul_assoc], Nat.add_mul_mod_self_left]
theorem valF_digB (n k : Nat) (h : n < 2 ^ k) (f : Nat → Nat) (a : Nat) (hf : ∀ i, i < k → f (a + i) = (digB n k).getD i 0) : valF f a k = n := by
  have key : ∀ j, j ≤ k → valF f a j = n / 2 ^ (k - j) := by
    intro j hj
    induction j with
    | zero => rw [valF, Nat.sub_zero, Nat.div_eq_of_lt h]
    | succ j ih =>
      rw [valF, ih (by omega), hf j (by omega), digB_get _ _ _ (by omega)]
      have e : k - j = (k - (j + 1)) + 1 := by omega
      rw [e, Nat.pow_succ, ← Nat.div_div_eq_div_mul, show k - 1 - j = k - (j + 1) from by omega]
      omega
  have := key k (Nat.le_refl _)
  simpa using this
theorem bitF_lt (s : ByteArray) (i : Nat) : bitF s i < 2 := Nat.mod_lt _ (by omega)

/-! ### One byte, there and back -/
theorem TOk.st {t : ByteArray} (h : TOk t) {v a : Nat} (hv : 1 ≤ tShr t v) (ha : a < 64) : stS t v a < 64 ∧ tOwn t (stS t v a) = v ∧ tNum t (stS t v a) = (64 + a) / 2 ^ stJ t v a ∧ kOf (tNum t (stS t v a)) = stJ t v a ∧ stJ t v a ≤ 6 := by
  obtain ⟨h1, h2, h3, h4⟩ := half_spec (m := 64 + a) (q := tShr t v) (by omega) (by omega) hv (h.le v)
  obtain ⟨s, hs, ho, hn⟩ := h.find h1 h2
  have e : stS t v a = s := by
    unfold stS stJ
    rw [← ho, ← hn] at *
    rw [← hn]
    exact slot_self hs
  rw [e]
  refine ⟨hs, ho, hn, ?_, h4⟩
  rw [hn]; exact h3
theorem TOk.back {t : ByteArray} (h : TOk t) {s b : Nat} (hs : s < 64) (hb : b < 2 ^ kOf (tNum t s)) :
    64 ≤ tNum t s * 2 ^ kOf (tNum t s) + b ∧ tNum t s * 2 ^ kOf (tNum t s) + b - 64 < 64 ∧ stS t (tOwn t s) (tNum t s * 2 ^ kOf (tNum t s) + b - 64) = s ∧ stB t (tOwn t s) (tNum t s * 2 ^ kOf (tNum t s) + b - 64) = digB b (kOf (tNum t s)) := by
  obtain ⟨n1, n2⟩ := h.num_bd hs
  obtain ⟨d1, d2, d3, d4⟩ := double_spec (h.one s hs) (h.le _) n1 n2 hb
  have ej : stJ t (tOwn t s) (tNum t s * 2 ^ kOf (tNum t s) + b - 64) = kOf (tNum t s) := by
    unfold stJ
    rw [show 64 + (tNum t s * 2 ^ kOf (tNum t s) + b - 64) = tNum t s * 2 ^ kOf (tNum t s) + b from by omega]
    exact d4
  refine ⟨d1, by omega, ?_, ?_⟩
  · unfold stS
    rw [ej, show 64 + (tNum t s * 2 ^ kOf (tNum t s) + b - 64) = tNum t s * 2 ^ kOf (tNum t s) + b from by omega, d3]
    exact slot_self hs
  · unfold stB
    rw [ej, show 64 + (tNum t s * 2 ^ kOf (tNum t s) + b - 64) = tNum t s * 2 ^ kOf (tNum t s) + b from by omega, digB_mod]
end Go.Proofs.Ytnconbpneimjiaa

/-
  P6, plain: bounds on what is read.
-/
namespace Go.Proofs.Ytnconbpneimjiaa
open Go.PlainAid

theorem decT_lt {t s : ByteArray} (h : TOk t) (n : Nat) : (decT t s n).1 < 64 := by
  induction n with
  | zero =>
    have := valF_lt (bitF_lt s) 0 6
    simpa [decT] using this
  | succ n ih =>
    have := h.back ih (valF_lt (bitF_lt s) (decT t s n).2 (kOf (tNum t (decT t s n).1)))
    exact this.2.1
theorem decT_mono {t s : ByteArray} {a b : Nat} (h : a ≤ b) : (decT t s a).2 ≤ (decT t s b).2 := by
  induction b with
  | zero => obtain rfl : a = 0 := by omega
            exact Nat.le_refl _
  | succ b ih =>
    rcases Nat.lt_or_ge b a with c | c
    · obtain rfl : a = b + 1 := by omega
      exact Nat.le_refl _
    · have := ih c
      show _ ≤ (decT t s b).2 + _
      omega
theorem kOf_up {n : Nat} (h1 : 1 ≤ n) (h2 : n < 128) : kOf n ≤ 6 ∧ n < 2 ^ (7 - kOf n) := by
  have hk := kOf_cases h1
  generalize kOf n = k at *
  rcases hk with ⟨rfl, a⟩ | ⟨rfl, a, c⟩ | ⟨rfl, a, c⟩ | ⟨rfl, a, c⟩ | ⟨rfl, a, c⟩ | ⟨rfl, a, c⟩ | ⟨rfl, a⟩
  all_goals
    simp only [Nat.reduceSub, Nat.reducePow]
    omega
theorem mid_lt {n j v : Nat} (h1 : 1 ≤ n) (h2 : n < 128) (hj : j < kOf n) (hv : v < 2 ^ j) : n * 2 ^ j + v < 64 := by
  obtain ⟨a, b⟩ := kOf_up h1 h2
  have e : (n + 1) * 2 ^ j ≤ 2 ^ (7 - kOf n) * 2 ^ j := Nat.mul_le_mul_right _ (by omega)
  rw [← Nat.pow_add] at e
  have e2 : 2 ^ (7 - kOf n + j) ≤ 2 ^ 6 := Nat.pow_le_pow_right (by omega) (by omega)
  rw [Nat.add_mul, Nat.one_mul] at e
  omega
theorem rdOk_short {t s : ByteArray} {n : Nat} (h : endS s < 7) : rdOk t s n = false := by
  simp only [rdOk, decide_eq_false_iff_not]; omega
theorem rdOk_over {t s : ByteArray} {k n : Nat} (hk : k ≤ n) (h : endS s < (decT t s k).2 + 1) : rdOk t s n = false := by
  have := decT_mono (t := t) (s := s) hk
  simp only [rdOk, decide_eq_false_iff_not]; omega
theorem rd_no {t s : ByteArray} {n : Nat} (h : rdOk t s n = false) : rd t s n = (⟨#[]⟩, false) := by unfold rd; rw [h]; rfl
theorem rd_yes {t s : ByteArray} {n : Nat} (h : rdOk t s n = true) : rd t s n = (strN (outT t s n), true) := by unfold rd; rw [h]; rfl
theorem outT_len (t s : ByteArray) (n : Nat) : (outT t s n).length = n := by
  induction n with
  | zero => rfl
  | succ n ih => rw [outT, List.length_append, ih]; rfl
theorem endS_le (s : ByteArray) : endS s ≤ 8 * s.size := by unfold endS; split <;> omega
end Go.Proofs.Ytnconbpneimjiaa

/-
  P5, P6, plain: bounds on what is written.
-/
namespace Go.Proofs.Ytnconbpneimjiaa
open Go.PlainAid

structure EncOk (t s : ByteArray) (c : Nat) : Prop where
  lt : (encT t s c).1 < 64
  len : (encT t s c).2.length ≤ 6 * c
  bit : ∀ x ∈ (encT t s c).2, x < 2
theorem encOk {t s : ByteArray} (h : TOk t) (c : Nat) (hs : ∀ j, j < c → 1 ≤ tShr t (btn s (s.size - 1 - j))) : EncOk t s c := by
  induction c with
  | zero => exact ⟨by simp [encT], by simp [encT], fun x hx => by simp [encT] at hx⟩
  | succ c ih =>
    have E := ih (fun j hj => hs j (by omega))
    obtain ⟨h1, h2, h3, h4, h5⟩ := h.st (hs c (by omega)) E.lt
    refine ⟨h1, ?_, fun x hx => ?_⟩
    · rw [encT, List.length_append]
      unfold stB
      rw [digB_len]
      have := E.len
      show stJ t _ _ + _ ≤ _
      omega
    · rw [encT, List.mem_append] at hx
      rcases hx with hx | hx
      · exact digB_bit _ _ x hx
      · exact E.bit x hx
theorem allSh_no {t s : ByteArray} {i : Nat} (hi : i < s.size) (h : ¬ 1 ≤ tShr t (btn s i)) : allSh t s = false := by
  simp only [allSh, decide_eq_false_iff_not]
  intro q
  exact h (q i hi)
theorem allSh_yes {t s : ByteArray} (h : ∀ j, j < s.size → 1 ≤ tShr t (btn s (s.size - 1 - j))) : allSh t s = true := by
  simp only [allSh, decide_eq_true_eq]
  intro i hi
  have := h (s.size - 1 - i) (by omega)
  rw [show s.size - 1 - (s.size - 1 - i) = i from by omega] at this
  exact this
end Go.Proofs.Ytnconbpneimjiaa

/-
  P5, P6, plain: closed bits; texts of numbers.
-/
namespace Go.Proofs.Ytnconbpneimjiaa
open Go.PlainAid

theorem padL_lo (B : List Nat) {i : Nat} (h : i < B.length) : bl (padL B) i = bl B i := by
  unfold bl padL
  rw [List.getD_eq_getElem?_getD, List.getD_eq_getElem?_getD, List.getElem?_append_left h]
theorem padL_one (B : List Nat) : bl (padL B) B.length = 1 := by
  unfold bl padL
  rw [List.getD_eq_getElem?_getD, List.getElem?_append_right (Nat.le_refl _)]
  simp
theorem padL_hi (B : List Nat) {i : Nat} (h : B.length < i) : bl (padL B) i = 0 := by
  unfold bl padL
  rw [List.getD_eq_getElem?_getD, List.getElem?_append_right (by omega)]
  obtain ⟨j, hj⟩ : ∃ j, i - B.length = j + 1 := ⟨i - B.length - 1, by omega⟩
  rw [hj, List.getElem?_cons_succ, List.getElem?_replicate]
  split <;> rfl
theorem bl_lt {B : List Nat} (h : ∀ x ∈ B, x < 2) (i : Nat) : bl B i < 2 := by
  unfold bl
  rw [List.getD_eq_getElem?_getD]
  cases hc : B[i]? with
  | none => simp
  | some x => simp only [Option.getD_some]; exact h x (List.mem_of_getElem? hc)
theorem padL_lt {B : List Nat} (h : ∀ x ∈ B, x < 2) (i : Nat) : bl (padL B) i < 2 := by
  rcases Nat.lt_trichotomy i B.length with c | c | c
  · rw [padL_lo B c]; exact bl_lt h i
  · subst c; rw [padL_one]; omega
  · rw [padL_hi B c]; omega
theorem ints_append (a b : List Nat) : ints (a ++ b) = ints a ++ ints b := by simp [ints]
theorem ints_len (a : List Nat) : (ints a).length = a.length := by simp [ints]
theorem bt_str (l : List Int) (h : ∀ x ∈ l, 0 ≤ x ∧ x < 256) (i : Nat) (hi : i < l.length) : bt (strOfNums l) i = l.getD i 0 := by
  have hs : i < (strOfNums l).size := by rw [strOfNums_size]; exact hi
  rw [← get_bt _ i hs]
  have e : (strOfNums l)[i]'hs = UInt8.ofNat (l[i]).toNat := by
    show (strOfNums l).data[i]'_ = _
    simp [strOfNums]
  have hx := h _ (List.getElem_mem hi)
  rw [e, List.getD_eq_getElem?_getD, List.getElem?_eq_getElem hi]
  simp only [UInt8.toNat_ofNat', Option.getD_some]
  omega
end Go.Proofs.Ytnconbpneimjiaa

/-
  P5, P6, plain: what is read is what was written; what is read as a stream is written just so again.
-/
namespace Go.Proofs.Ytnconbpneimjiaa
open Go.PlainAid

/-! ### Bytes and texts -/
theorem strN_size (l : List Nat) : (strN l).size = l.length := by unfold strN; rw [strOfNums_size, ints_len]
theorem strN_btn (l : List Nat) (h : ∀ x ∈ l, x < 256) (i : Nat) : btn (strN l) i = l.getD i 0 := by
  by_cases hi : i < l.length
  · have := bt_str (ints l) (fun x hx => by
      simp only [ints, List.mem_map] at hx
      obtain ⟨b, hb, rfl⟩ := hx
      have := h b hb
      omega) i (by rw [ints_len]; exact hi)
    unfold btn
    rw [show bt (strN l) i = _ from this]
    simp only [ints, List.getD_eq_getElem?_getD, List.getElem?_map, List.getElem?_eq_getElem hi, Option.map_some, Option.getD_some]
    omega
  · unfold btn
    rw [bt_end _ (by rw [strN_size]; omega), List.getD_eq_getElem?_getD, List.getElem?_eq_none (by omega)]
    rfl
theorem text_ext {a b : ByteArray} (hs : a.size = b.size) (h : ∀ i, i < a.size → btn a i = btn b i) : a = b := by
  apply ByteArray.ext
  apply Array.ext hs
  intro i h1 h2
  have h1' : i < a.size := h1
  have h2' : i < b.size := h2
  have e := h i h1'
  have e1 := get_btn a i h1'
  have e2 := get_btn b i h2'
  have : (a[i]'h1').toNat = (b[i]'h2').toNat := by omega
  exact UInt8.toNat_inj.1 this

/-! ### The closing 1 -/
theorem tzF_spec : ∀ (f x : Nat), 0 < x → x < 2 ^ f → tzF f x < f ∧ x / 2 ^ tzF f x % 2 = 1 ∧ ∀ i, i < tzF f x → x / 2 ^ i % 2 = 0 := by
  intro f
  induction f with
  | zero => intro x h1 h2; simp at h2; omega
  | succ f ih =>
    intro x h1 h2
    rw [tzF]
    by_cases c : x % 2 = 0
    · rw [if_pos c]
      obtain ⟨a, b, d⟩ := ih (x / 2) (by omega) (by rw [Nat.pow_succ] at h2; omega)
      refine ⟨by omega, ?_, fun i hi => ?_⟩
      · rw [Nat.pow_succ, Nat.mul_comm, ← Nat.div_div_eq_div_mul]; exact b
      · cases i with
        | zero => simpa using c
        | succ i => rw [Nat.pow_succ, Nat.mul_comm, ← Nat.div_div_eq_div_mul]; exact d i (by omega)
    · rw [if_neg c]
      exact ⟨by omega, by simp; omega, fun i hi => by omega⟩
theorem tzF_uniq {x j : Nat} (h1 : x < 256) (hj : x / 2 ^ j % 2 = 1) (hz : ∀ i, i < j → x / 2 ^ i % 2 = 0) : tzF 8 x = j := by
  have hx : 0 < x := by
    rcases Nat.eq_zero_or_pos x with c | c
    · subst c; simp at hj
    · exact c
  obtain ⟨a, b, c⟩ := tzF_spec 8 x hx h1
  rcases Nat.lt_trichotomy (tzF 8 x) j with d | d | d
  · have := hz _ d; omega
  · exact d
  · have := c _ d; omega
theorem bitF_at (s : ByteArray) (k i : Nat) (hi : i < 8) : bitF s (8 * k + i) = btn s k / 2 ^ (7 - i) % 2 := by
  unfold bitF
  rw [show (8 * k + i) / 8 = k from by omega, show (8 * k + i) % 8 = i from by omega]
theorem val_byte (s : ByteArray) (k : Nat) : valF (bitF s) (8 * k) 8 = btn s k := by
  refine valF_digB (btn s k) 8 (by have := btn_lt s k; omega) _ _ fun i hi => ?_
  rw [bitF_at s k i hi, digB_get _ _ _ hi]
/-- A text whose last byte has the closing 1 is what its bits are packed into. -/
theorem pack_unpack {s : ByteArray} (h : 1 ≤ endS s) : strN (packL (bitsOf (bitF s) 0 (endS s - 1))) = s := by
  unfold endS at h
  by_cases c : s.size = 0 ∨ btn s (s.size - 1) = 0
  · rw [if_pos c] at h; omega
  · have hE : endS s = 8 * s.size - tzF 8 (btn s (s.size - 1)) := by unfold endS; rw [if_neg c]
    have hsz : 0 < s.size := by omega
    obtain ⟨z1, z2, z3⟩ := tzF_spec 8 (btn s (s.size - 1)) (by omega) (by have := btn_lt s (s.size - 1); omega)
    generalize tzF 8 (btn s (s.size - 1)) = z at *
    have hlen : (bitsOf (bitF s) 0 (endS s - 1)).length = 8 * (s.size - 1) + (7 - z) := by rw [bitsOf_len]; omega
    have hpad : ∀ i, i < 8 * s.size → bl (padL (bitsOf (bitF s) 0 (endS s - 1))) i = bitF s i := by
      intro i hi
      rcases Nat.lt_trichotomy i (8 * (s.size - 1) + (7 - z)) with d | d | d
      · rw [padL_lo _ (by omega)]
        unfold bl
        rw [bitsOf_get _ _ _ _ (by omega), Nat.zero_add]
      · have e := padL_one (bitsOf (bitF s) 0 (endS s - 1))
        rw [hlen] at e
        rw [d, e, bitF_at s (s.size - 1) (7 - z) (by omega), show 7 - (7 - z) = z from by omega, z2]
      · rw [padL_hi _ (by omega)]
        obtain ⟨r, hr⟩ : ∃ r, i = 8 * (s.size - 1) + r := ⟨i - 8 * (s.size - 1), by omega⟩
        rw [hr, bitF_at s (s.size - 1) r (by omega), z3 (7 - r) (by omega)]
    have hn : (bitsOf (bitF s) 0 (endS s - 1)).length / 8 + 1 = s.size := by rw [hlen]; omega
    have hbyte : ∀ k, k < s.size → valF (bl (padL (bitsOf (bitF s) 0 (endS s - 1)))) (8 * k) 8 = btn s k := by
      intro k hk
      rw [← val_byte s k]
      exact valF_congr (fun i hi => hpad (8 * k + i) (by omega))
    have hpk : packL (bitsOf (bitF s) 0 (endS s - 1)) = (List.range s.size).map (btn s) := by
      unfold packL
      rw [hn]
      apply List.map_congr_left
      intro k hk
      exact hbyte k (List.mem_range.1 hk)
    rw [hpk]
    refine text_ext (by rw [strN_size]; simp) fun i hi => ?_
    rw [strN_size] at hi
    have hi' : i < s.size := by simpa using hi
    rw [strN_btn _ (fun x hx => by
      obtain ⟨j, _, rfl⟩ := List.mem_map.1 hx
      exact btn_lt s j)]
    simp [List.getD_eq_getElem?_getD, hi']
theorem packL_lt {B : List Nat} (hB : ∀ x ∈ B, x < 2) : ∀ x ∈ packL B, x < 256 := by
  intro x hx
  obtain ⟨k, _, rfl⟩ := List.mem_map.1 hx
  have := valF_lt (padL_lt hB) (8 * k) 8
  omega
theorem unpack_bit {B : List Nat} (hB : ∀ x ∈ B, x < 2) (i : Nat) (hi : i < 8 * (B.length / 8 + 1)) : bitF (strN (packL B)) i = bl (padL B) i := by
  have e : i = 8 * (i / 8) + i % 8 := by omega
  rw [e, bitF_at _ _ _ (by omega), strN_btn _ (packL_lt hB)]
  have hk : i / 8 < B.length / 8 + 1 := by omega
  have : (packL B).getD (i / 8) 0 = valF (bl (padL B)) (8 * (i / 8)) 8 := by
    simp [packL, List.getD_eq_getElem?_getD, hk]
  rw [this]
  exact valF_bit (padL_lt hB) (8 * (i / 8)) 8 (i % 8) (by omega)
theorem unpack_end {B : List Nat} (hB : ∀ x ∈ B, x < 2) : endS (strN (packL B)) = B.length + 1 := by
  have hsz : (strN (packL B)).size = B.length / 8 + 1 := by rw [strN_size]; simp [packL]
  have hl := btn_lt (strN (packL B)) (B.length / 8)
  have hbit : ∀ r, r < 8 → btn (strN (packL B)) (B.length / 8) / 2 ^ (7 - r) % 2 = bl (padL B) (8 * (B.length / 8) + r) := by
    intro r hr
    rw [← unpack_bit hB _ (by omega), bitF_at _ _ _ hr]
  have e1 : btn (strN (packL B)) (B.length / 8) / 2 ^ (7 - B.length % 8) % 2 = 1 := by
    rw [hbit _ (by omega), show 8 * (B.length / 8) + B.length % 8 = B.length from by omega, padL_one]
  have e2 : ∀ i, i < 7 - B.length % 8 → btn (strN (packL B)) (B.length / 8) / 2 ^ i % 2 = 0 := by
    intro i hi
    have := hbit (7 - i) (by omega)
    rw [show 7 - (7 - i) = i from by omega, padL_hi _ (by omega)] at this
    exact this
  have hz := tzF_uniq hl e1 e2
  have hne : btn (strN (packL B)) (B.length / 8) ≠ 0 := by
    intro q
    rw [q] at e1
    simp at e1
  unfold endS
  rw [hsz, show B.length / 8 + 1 - 1 = B.length / 8 from by omega, if_neg (by omega), hz]
  omega

/-! ### What is read as a stream is written just so again -/
theorem outT_get {t s : ByteArray} (n i : Nat) (hi : i < n) : btn (strN (outT t s n)) i = tOwn t (decT t s i).1 := by
  have hlt : ∀ n, ∀ x ∈ outT t s n, x < 256 := by
    intro n
    induction n with
    | zero => intro x hx; simp [outT] at hx
    | succ n ih =>
      intro x hx
      rw [outT, List.mem_append] at hx
      rcases hx with hx | hx
      · exact ih x hx
      · rw [List.mem_singleton] at hx; rw [hx]; exact tOwn_lt t _
  rw [strN_btn _ (hlt n)]
  clear hlt
  induction n with
  | zero => omega
  | succ n ih =>
    rw [outT, List.getD_eq_getElem?_getD, List.getElem?_append]
    rcases Nat.lt_or_ge i n with c | c
    · rw [if_pos (by rw [outT_len]; exact c), ← List.getD_eq_getElem?_getD]
      exact ih c
    · obtain rfl : i = n := by omega
      rw [if_neg (by rw [outT_len]; omega), outT_len]
      simp
theorem out_allSh {t s : ByteArray} (h : TOk t) (n : Nat) : allSh t (strN (outT t s n)) = true := by
  simp only [allSh, decide_eq_true_eq]
  intro i hi
  rw [strN_size, outT_len] at hi
  rw [outT_get n i hi]
  exact h.one _ (decT_lt h i)
theorem enc_dec {t s : ByteArray} (h : TOk t) {n : Nat} (h0 : (decT t s n).1 = 0) (c : Nat) (hc : c ≤ n) : encT t (strN (outT t s n)) c = ((decT t s (n - c)).1, bitsOf (bitF s) (decT t s (n - c)).2 ((decT t s n).2 - (decT t s (n - c)).2)) := by
  have hsz : (strN (outT t s n)).size = n := by rw [strN_size, outT_len]
  induction c with
  | zero => simp [encT, h0, bitsOf]
  | succ c ih =>
    have e := ih (by omega)
    have hm : n - c = (n - (c + 1)) + 1 := by omega
    rw [encT, e, hsz, show n - 1 - c = n - (c + 1) from by omega, outT_get n _ (by omega)]
    have hb := h.back (decT_lt (s := s) h (n - (c + 1))) (valF_lt (bitF_lt s) (decT t s (n - (c + 1))).2 (kOf (tNum t (decT t s (n - (c + 1))).1)))
    have hd : decT t s (n - c) = (tNum t (decT t s (n - (c + 1))).1 * 2 ^ kOf (tNum t (decT t s (n - (c + 1))).1) + valF (bitF s) (decT t s (n - (c + 1))).2 (kOf (tNum t (decT t s (n - (c + 1))).1)) - 64, (decT t s (n - (c + 1))).2 + kOf (tNum t (decT t s (n - (c + 1))).1)) := by
      conv => lhs; rw [hm]
      rfl
    have hmono := decT_mono (t := t) (s := s) (a := n - c) (b := n) (by omega)
    rw [hd] at hmono ⊢
    simp only at hmono ⊢
    rw [hb.2.2.1, hb.2.2.2, digB_valF (bitF_lt s), ← bitsOf_append]
    congr 2
    omega
theorem canon {t s : ByteArray} (h : TOk t) {n : Nat} (hr : rdOk t s n = true) : strN (packL (encB t (strN (outT t s n)))) = s := by
  simp only [rdOk, decide_eq_true_eq] at hr
  obtain ⟨h7, h0, he⟩ := hr
  have hsz : (strN (outT t s n)).size = n := by rw [strN_size, outT_len]
  have e := enc_dec h h0 n (Nat.le_refl _)
  have hb : encB t (strN (outT t s n)) = bitsOf (bitF s) 0 (endS s - 1) := by
    unfold encB
    rw [hsz, e, Nat.sub_self]
    show digB (valF (bitF s) 0 6) 6 ++ bitsOf (bitF s) 6 ((decT t s n).2 - 6) = _
    rw [digB_valF (bitF_lt s), show (6 : Nat) = 0 + 6 from rfl, ← bitsOf_append]
    congr 1
    omega
  rw [hb]
  exact pack_unpack (by omega)

/-! ### What was written is read -/
theorem dec_enc {t s : ByteArray} (h : TOk t) {x : ByteArray} (hx : ∀ j, j < x.size → 1 ≤ tShr t (btn x (x.size - 1 - j))) (i : Nat) (hi : i ≤ x.size) (hs : s = strN (packL (encB t x))) :
    decT t s i = ((encT t x (x.size - i)).1, (encB t x).length - (encT t x (x.size - i)).2.length) ∧ (encT t x (x.size - i)).2.length ≤ (encB t x).length ∧ ∀ j, j < (encT t x (x.size - i)).2.length → bl (encB t x) ((encB t x).length - (encT t x (x.size - i)).2.length + j) = bl (encT t x (x.size - i)).2 j := by
  have hbits : ∀ y ∈ encB t x, y < 2 := by
    intro y hy
    rcases List.mem_append.1 hy with hy | hy
    · exact digB_bit _ _ y hy
    · exact (encOk h x.size hx).bit y hy
  have hbf : ∀ j, j < (encB t x).length → bitF s j = bl (encB t x) j := by
    intro j hj
    rw [hs, unpack_bit hbits j (by omega), padL_lo _ hj]
  have hlen : (encB t x).length = 6 + (encT t x x.size).2.length := by unfold encB; rw [List.length_append, digB_len]
  induction i with
  | zero =>
    rw [Nat.sub_zero]
    refine ⟨?_, by omega, fun j hj => ?_⟩
    · have e : valF (bitF s) 0 6 = (encT t x x.size).1 := by
        refine valF_digB _ 6 (by have := (encOk h x.size hx).lt; omega) _ _ fun j hj => ?_
        rw [Nat.zero_add, hbf j (by omega)]
        unfold bl encB
        rw [List.getD_eq_getElem?_getD, List.getElem?_append_left (by rw [digB_len]; exact hj), ← List.getD_eq_getElem?_getD]
      show (valF (bitF s) 0 6, 6) = _
      rw [e, hlen]
      congr 1
      omega
    · rw [hlen, show 6 + (encT t x x.size).2.length - (encT t x x.size).2.length + j = 6 + j from by omega]
      unfold bl encB
      rw [List.getD_eq_getElem?_getD, List.getElem?_append_right (by rw [digB_len]; omega), digB_len, show 6 + j - 6 = j from by omega, ← List.getD_eq_getElem?_getD]
  | succ i ih =>
    obtain ⟨d1, d2, d3⟩ := ih (by omega)
    have hc : x.size - i = (x.size - (i + 1)) + 1 := by omega
    rw [hc] at d1 d2 d3
    have hE := encOk h (x.size - (i + 1)) (fun j hj => hx j (by omega))
    have hv := hx (x.size - (i + 1)) (by omega)
    obtain ⟨s1, s2, s3, s4, s5⟩ := h.st hv hE.lt
    rw [encT] at d1 d2 d3
    simp only at d1 d2 d3
    generalize btn x (x.size - 1 - (x.size - (i + 1))) = v at *
    generalize (encT t x (x.size - (i + 1))).2 = bs at *
    generalize (encT t x (x.size - (i + 1))).1 = a at *
    have hla : (stB t v a).length = stJ t v a := by unfold stB; rw [digB_len]
    rw [List.length_append, hla] at d1 d2 d3
    have hval : valF (bitF s) ((encB t x).length - (stJ t v a + bs.length)) (stJ t v a) = (64 + a) % 2 ^ stJ t v a := by
      refine valF_digB _ _ (Nat.mod_lt _ (Nat.two_pow_pos _)) _ _ fun j hj => ?_
      rw [hbf _ (by omega), d3 j (by omega)]
      have e2 : digB ((64 + a) % 2 ^ stJ t v a) (stJ t v a) = stB t v a := by
        unfold stB
        conv => rhs; rw [← Nat.div_add_mod (64 + a) (2 ^ stJ t v a), Nat.mul_comm]
        rw [digB_mod]
      rw [e2]
      unfold bl
      rw [List.getD_eq_getElem?_getD, List.getElem?_append_left (by rw [hla]; exact hj), ← List.getD_eq_getElem?_getD]
    refine ⟨?_, by omega, fun j hj => ?_⟩
    · show (tNum t (decT t s i).1 * 2 ^ kOf (tNum t (decT t s i).1) + valF (bitF s) (decT t s i).2 (kOf (tNum t (decT t s i).1)) - 64, (decT t s i).2 + kOf (tNum t (decT t s i).1)) = _
      rw [d1]
      simp only
      rw [s4, hval, s3]
      have := Nat.div_add_mod (64 + a) (2 ^ stJ t v a)
      rw [Nat.mul_comm] at this
      rw [this]
      have hj6 := s5
      congr 1
      · omega
      · omega
    · have e := d3 (stJ t v a + j) (by omega)
      rw [show (encB t x).length - bs.length + j = (encB t x).length - (stJ t v a + bs.length) + (stJ t v a + j) from by omega, e]
      unfold bl
      rw [List.getD_eq_getElem?_getD, List.getElem?_append_right (by rw [hla]; omega), hla, show stJ t v a + j - stJ t v a = j from by omega, ← List.getD_eq_getElem?_getD]
theorem round {t s : ByteArray} (h : TOk t) {x : ByteArray} (hx : allSh t x = true) (hs : s = strN (packL (encB t x))) : rdOk t s x.size = true ∧ strN (outT t s x.size) = x := by
  have hx' : ∀ j, j < x.size → 1 ≤ tShr t (btn x (x.size - 1 - j)) := by
    simp only [allSh, decide_eq_true_eq] at hx
    intro j hj
    exact hx _ (by omega)
  have hbits : ∀ y ∈ encB t x, y < 2 := by
    intro y hy
    rcases List.mem_append.1 hy with hy | hy
    · exact digB_bit _ _ y hy
    · exact (encOk h x.size hx').bit y hy
  constructor
  · obtain ⟨d1, _, _⟩ := dec_enc h hx' x.size (Nat.le_refl _) hs
    rw [Nat.sub_self] at d1
    have he : endS s = (encB t x).length + 1 := by rw [hs]; exact unpack_end hbits
    have hl : 6 ≤ (encB t x).length := by unfold encB; rw [List.length_append, digB_len]; omega
    simp only [rdOk, decide_eq_true_eq, d1, he]
    exact ⟨by omega, rfl, by simp [encT]⟩
  · refine text_ext (by rw [strN_size, outT_len]) fun i hi => ?_
    rw [strN_size, outT_len] at hi
    rw [outT_get _ i hi]
    obtain ⟨d1, _, _⟩ := dec_enc h hx' i (by omega) hs
    rw [d1, show x.size - i = (x.size - 1 - i) + 1 from by omega, encT]
    simp only
    have hE := encOk h (x.size - 1 - i) (fun j hj => hx' j (by omega))
    have hv := hx' (x.size - 1 - i) (by omega)
    rw [show x.size - 1 - (x.size - 1 - i) = i from by omega] at hv ⊢
    exact (h.st hv hE.lt).2.1
end Go.Proofs.Ytnconbpneimjiaa

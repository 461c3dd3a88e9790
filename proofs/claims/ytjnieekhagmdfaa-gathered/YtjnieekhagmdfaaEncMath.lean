/-
  P5, P6, plain: the ranges behind a value's slots fill 64 to 127; reading is the inverse of writing.
-/
import Derived.Test.YtjnieekhagmdfaaEncDefs
namespace Go.Proofs.Ytjnieekhagmdfaa
open Go.PlainAid

/-! ### Counting slots -/
def sumM (f : Nat → Nat) : Nat → Nat
  | 0 => 0
  | n + 1 => sumM f n + f n
theorem cntO_sum (own : Nat → Nat) (v s : Nat) : cntO own v s = sumM (fun i => if own i = v then 1 else 0) s := by
  induction s with
  | zero => rfl
  | succ s ih => rw [cntO, sumM, ih]
set_option maxRecDepth 100000 in
theorem sumM_perm (f : Nat → Nat) : sumM (fun s => f (3 * s % 64)) 64 = sumM f 64 := by
  simp only [sumM]
  simp only [Nat.reduceMul, Nat.reduceMod]
  omega
theorem sumM_take (l : List Nat) (v k : Nat) (hk : k ≤ l.length) : sumM (fun p => if l.getD p 0 = v then 1 else 0) k = (l.take k).count v := by
  induction k with
  | zero => rfl
  | succ k ih =>
    rw [sumM, ih (by omega), List.take_succ_eq_append_getElem (by omega), List.count_append]
    have : l.getD k 0 = l[k] := by rw [List.getD_eq_getElem?_getD, List.getElem?_eq_getElem (by omega)]; rfl
    rw [this, List.count_singleton]
    simp only [beq_iff_eq]
theorem count_row {t : ByteArray} {k : Nat} (h : goodTo t k) (v : Nat) : (rowTo t k).count v = shTab t k v := by
  induction k with
  | zero => rfl
  | succ k ih =>
    have hk := ih (goodTo_mono h (by omega))
    rw [rowTo, List.count_append, hk, List.count_replicate, shTab]
    by_cases c : v = btn t (2 * k)
    · rw [if_pos c]
      have : shTab t k v = 0 := shTab_none (fun j hj e => by have := rising h hj (by omega); omega)
      rw [this]; simp [c]
    · rw [if_neg c]
      have : (btn t (2 * k) == v) = false := by simp; omega
      rw [this]; simp

structure TOk (t : ByteArray) : Prop where
  cnt : ∀ v, cntO (tOwn t) v 64 = tShr t v
  one : ∀ s, s < 64 → 1 ≤ tShr t (tOwn t s)
  le : ∀ v, tShr t v ≤ 64

theorem cntO_le2 (own : Nat → Nat) (v : Nat) {a b : Nat} (h : a ≤ b) : cntO own v a ≤ cntO own v b := by
  induction b with
  | zero => obtain rfl : a = 0 := by omega
            exact Nat.le_refl _
  | succ b ih =>
    rcases Nat.lt_or_ge b a with c | c
    · obtain rfl : a = b + 1 := by omega
      exact Nat.le_refl _
    · have := ih c; rw [cntO]; omega
theorem cntO_lt (own : Nat → Nat) (v : Nat) {a b : Nat} (h : a < b) (ha : own a = v) : cntO own v a < cntO own v b := by
  have := cntO_le2 own v (a := a + 1) (b := b) h
  rw [cntO, if_pos ha] at this
  omega
theorem tok {t : ByteArray} (h : isTB t = true) : TOk t := by
  obtain ⟨hev, hgood, htot⟩ := isTB_yes h
  have hlen : (rowTo t (t.size / 2)).length = 64 := by rw [rowTo_len, htot]
  have hc : ∀ v, cntO (tOwn t) v 64 = tShr t v := by
    intro v
    rw [cntO_sum]
    show sumM (fun s => if (rowTo t (t.size / 2)).getD (3 * s % 64) 0 = v then 1 else 0) 64 = _
    rw [sumM_perm (fun p => if (rowTo t (t.size / 2)).getD p 0 = v then 1 else 0), sumM_take _ v 64 (by omega), ← hlen, List.take_length, count_row hgood]
    rfl
  refine ⟨hc, fun s hs => ?_, fun v => ?_⟩
  · rw [← hc]
    have := cntO_lt (tOwn t) (tOwn t s) hs rfl
    omega
  · rw [← hc]; exact cntO_le _ _ _

theorem cnt_find (own : Nat → Nat) (v n r : Nat) (h : r < cntO own v n) : ∃ s, s < n ∧ own s = v ∧ cntO own v s = r := by
  induction n with
  | zero => simp [cntO] at h
  | succ n ih =>
    rw [cntO] at h
    by_cases c : r < cntO own v n
    · obtain ⟨s, h1, h2⟩ := ih c
      exact ⟨s, by omega, h2⟩
    · by_cases d : own n = v
      · rw [if_pos d] at h
        exact ⟨n, by omega, d, by omega⟩
      · rw [if_neg d] at h; omega

theorem TOk.num_bd {t : ByteArray} (h : TOk t) {s : Nat} (hs : s < 64) : tShr t (tOwn t s) ≤ tNum t s ∧ tNum t s < 2 * tShr t (tOwn t s) := by
  have := cntO_lt (tOwn t) (tOwn t s) hs rfl
  rw [h.cnt] at this
  unfold tNum numO; omega
theorem num_inj {t : ByteArray} {a b : Nat} (ho : tOwn t a = tOwn t b) (hn : tNum t a = tNum t b) : a = b := by
  unfold tNum numO at hn
  rw [ho] at hn
  rcases Nat.lt_trichotomy a b with c | c | c
  · have := cntO_lt (tOwn t) (tOwn t b) c ho; omega
  · exact c
  · have := cntO_lt (tOwn t) (tOwn t b) c rfl; omega
theorem TOk.find {t : ByteArray} (h : TOk t) {v n : Nat} (h1 : tShr t v ≤ n) (h2 : n < 2 * tShr t v) : ∃ s, s < 64 ∧ tOwn t s = v ∧ tNum t s = n := by
  obtain ⟨s, a, b, c⟩ := cnt_find (tOwn t) v 64 (n - tShr t v) (by rw [h.cnt]; omega)
  refine ⟨s, a, b, ?_⟩
  unfold tNum numO
  rw [b, c]; omega
theorem slot_self {t : ByteArray} {s : Nat} (hs : s < 64) : slotOf (tOwn t) (tNum t) (tOwn t s) (tNum t s) = s := by
  unfold slotOf
  cases hf : (List.range 64).find? (fun x => tOwn t x == tOwn t s && tNum t x == tNum t s) with
  | none =>
    rw [List.find?_eq_none] at hf
    have := hf s (List.mem_range.2 hs)
    simp at this
  | some x =>
    have h1 := List.find?_some hf
    simp only [Bool.and_eq_true, beq_iff_eq] at h1
    exact num_inj h1.1 h1.2

/-! ### Halving and doubling -/
theorem kOf_cases {n : Nat} (h1 : 1 ≤ n) : (kOf n = 0 ∧ 64 ≤ n) ∨ (kOf n = 1 ∧ 32 ≤ n ∧ n < 64) ∨ (kOf n = 2 ∧ 16 ≤ n ∧ n < 32) ∨ (kOf n = 3 ∧ 8 ≤ n ∧ n < 16) ∨ (kOf n = 4 ∧ 4 ≤ n ∧ n < 8) ∨ (kOf n = 5 ∧ 2 ≤ n ∧ n < 4) ∨ (kOf n = 6 ∧ n = 1) := by
  unfold kOf
  simp only [kF]
  repeat' split
  all_goals omega
theorem jOf_cases {m q : Nat} (h1 : 64 ≤ m) (h2 : m < 128) (h3 : 1 ≤ q) : (jOf m q = 0 ∧ m < 2 * q) ∨ (jOf m q = 1 ∧ 2 * q ≤ m ∧ m / 2 < 2 * q) ∨ (jOf m q = 2 ∧ 2 * q ≤ m / 2 ∧ m / 4 < 2 * q) ∨ (jOf m q = 3 ∧ 2 * q ≤ m / 4 ∧ m / 8 < 2 * q) ∨ (jOf m q = 4 ∧ 2 * q ≤ m / 8 ∧ m / 16 < 2 * q) ∨ (jOf m q = 5 ∧ 2 * q ≤ m / 16 ∧ m / 32 < 2 * q) ∨ (jOf m q = 6 ∧ 2 * q ≤ m / 32 ∧ m / 64 < 2 * q) := by
  unfold jOf
  simp only [jF, Nat.div_div_eq_div_mul, Nat.reduceMul]
  repeat' split
  all_goals omega
/-- Behind m, halved: the number lies in q .. 2q - 1, and is doubled as often again. -/
theorem half_spec {m q : Nat} (h1 : 64 ≤ m) (h2 : m < 128) (h3 : 1 ≤ q) (h4 : q ≤ 64) : q ≤ m / 2 ^ jOf m q ∧ m / 2 ^ jOf m q < 2 * q ∧ kOf (m / 2 ^ jOf m q) = jOf m q ∧ jOf m q ≤ 6 := by
  have hj := jOf_cases h1 h2 h3
  generalize jOf m q = j at *
  rcases hj with ⟨rfl, a⟩ | ⟨rfl, a, b⟩ | ⟨rfl, a, b⟩ | ⟨rfl, a, b⟩ | ⟨rfl, a, b⟩ | ⟨rfl, a, b⟩ | ⟨rfl, a, b⟩
  all_goals
    simp only [Nat.reducePow]
    refine ⟨by omega, by omega, ?_, by omega⟩
    first
      | (have hk := kOf_cases (n := m / 1) (by omega); omega)
      | (have hk := kOf_cases (n := m / 2) (by omega); omega)
      | (have hk := kOf_cases (n := m / 4) (by omega); omega)
      | (have hk := kOf_cases (n := m / 8) (by omega); omega)
      | (have hk := kOf_cases (n := m / 16) (by omega); omega)
      | (have hk := kOf_cases (n := m / 32) (by omega); omega)
      | (have hk := kOf_cases (n := m / 64) (by omega); omega)
/-- Behind a number n of q .. 2q - 1 and its bits: the same the other way round. -/
theorem double_spec {n q b : Nat} (h1 : 1 ≤ q) (h2 : q ≤ 64) (h3 : q ≤ n) (h4 : n < 2 * q) (hb : b < 2 ^ kOf n) :
    64 ≤ n * 2 ^ kOf n + b ∧ n * 2 ^ kOf n + b < 128 ∧ (n * 2 ^ kOf n + b) / 2 ^ kOf n = n ∧ jOf (n * 2 ^ kOf n + b) q = kOf n := by
  have hk := kOf_cases (n := n) (by omega)
  generalize kOf n = k at *
  rcases hk with ⟨rfl, a⟩ | ⟨rfl, a, c⟩ | ⟨rfl, a, c⟩ | ⟨rfl, a, c⟩ | ⟨rfl, a, c⟩ | ⟨rfl, a, c⟩ | ⟨rfl, a⟩
  all_goals
    simp only [Nat.reducePow] at hb ⊢
    refine ⟨by omega, by omega, by omega, ?_⟩
    first
      | (have hj := jOf_cases (m := n * 1 + b) (q := q) (by omega) (by omega) h1; omega)
      | (have hj := jOf_cases (m := n * 2 + b) (q := q) (by omega) (by omega) h1; omega)
      | (have hj := jOf_cases (m := n * 4 + b) (q := q) (by omega) (by omega) h1; omega)
      | (have hj := jOf_cases (m := n * 8 + b) (q := q) (by omega) (by omega) h1; omega)
      | (have hj := jOf_cases (m := n * 16 + b) (q := q) (by omega) (by omega) h1; omega)
      | (have hj := jOf_cases (m := n * 32 + b) (q := q) (by omega) (by omega) h1; omega)
      | (have hj := jOf_cases (m := n * 64 + b) (q := q) (by omega) (by omega) h1; omega)

/-! ### Bits and values -/
theorem valF_lt {f : Nat → Nat} (hf : ∀ i, f i < 2) (a n : Nat) : valF f a n < 2 ^ n := by
  induction n with
  | zero => simp [valF]
  | succ n ih => have := hf (a + n); rw [valF, Nat.pow_succ]; omega
theorem valF_congr {f g : Nat → Nat} {a b n : Nat} (h : ∀ i, i < n → f (a + i) = g (b + i)) : valF f a n = valF g b n := by
  induction n with
  | zero => rfl
  | succ n ih => rw [valF, valF, ih (fun i hi => h i (by omega)), h n (by omega)]
/-- The bits of f from a on, as a list. -/
def bitsOf (f : Nat → Nat) (a n : Nat) : List Nat := (List.range n).map (fun i => f (a + i))
theorem bitsOf_len (f : Nat → Nat) (a n : Nat) : (bitsOf f a n).length = n := by simp [bitsOf]
theorem bitsOf_get (f : Nat → Nat) (a n i : Nat) (h : i < n) : (bitsOf f a n).getD i 0 = f (a + i) := by
  simp [bitsOf, List.getD_eq_getElem?_getD, h]
theorem bitsOf_append (f : Nat → Nat) (a n m : Nat) : bitsOf f a (n + m) = bitsOf f a n ++ bitsOf f (a + n) m := by
  simp only [bitsOf, List.range_add, List.map_append, List.map_map]
  congr 1
  apply List.map_congr_left
  intro i _
  simp [Nat.add_assoc]
theorem digB_get (n k i : Nat) (h : i < k) : (digB n k).getD i 0 = n / 2 ^ (k - 1 - i) % 2 := by
  induction k generalizing i with
  | zero => omega
  | succ k ih =>
    rw [digB]
    cases i with
    | zero => simp
    | succ i =>
      rw [List.getD_cons_succ, ih i (by omega)]
      congr 3
      omega
theorem getD_ext {a b : List Nat} (hl : a.length = b.length) (h : ∀ i, i < a.length → a.getD i 0 = b.getD i 0) : a = b := by
  apply List.ext_getElem hl
  intro i h1 h2
  have := h i h1
  rw [List.getD_eq_getElem?_getD, List.getD_eq_getElem?_getD, List.getElem?_eq_getElem h1, List.getElem?_eq_getElem h2] at this
  simpa using this
theorem valF_bit {f : Nat → Nat} (hf : ∀ i, f i < 2) (a n i : Nat) (h : i < n) : valF f a n / 2 ^ (n - 1 - i) % 2 = f (a + i) := by
  induction n with
  | zero => omega
  | succ n ih =>
    rw [valF]
    have hb := hf (a + n)
    rcases Nat.lt_or_ge i n with c | c
    · have e : n + 1 - 1 - i = (n - 1 - i) + 1 := by omega
      rw [e, Nat.pow_succ, Nat.mul_comm (2 ^ (n - 1 - i)) 2, ← Nat.div_div_eq_div_mul, show (2 * valF f a n + f (a + n)) / 2 = valF f a n from by omega]
      exact ih c
    · obtain rfl : i = n := by omega
      rw [show i + 1 - 1 - i = 0 from by omega]
      simp; omega
theorem digB_valF {f : Nat → Nat} (hf : ∀ i, f i < 2) (a n : Nat) : digB (valF f a n) n = bitsOf f a n := by
  refine getD_ext (by rw [digB_len, bitsOf_len]) fun i hi => ?_
  rw [digB_len] at hi
  rw [digB_get _ _ _ hi, bitsOf_get _ _ _ _ hi, valF_bit hf a n i hi]
theorem digB_mod (n m k : Nat) : digB (m * 2 ^ k + n) k = digB n k := by
  refine getD_ext (by rw [digB_len, digB_len]) fun i hi => ?_
  rw [digB_len] at hi
  rw [digB_get _ _ _ hi, digB_get _ _ _ hi]
  have e : 2 ^ k = 2 ^ (k - 1 - i) * (2 * 2 ^ i) := by
    rw [← Nat.pow_succ', ← Nat.pow_add]; congr 1; omega
  rw [e, ← Nat.mul_assoc, Nat.mul_comm m, Nat.mul_assoc, Nat.add_comm, Nat.add_mul_div_left _ _ (Nat.two_pow_pos _)]
  rw [show m * (2 * 2 ^ i) = 2 * (m * 2 ^ i) from by rw [← Nat.mul_assoc, Nat.mul_comm m 2, Nat.mul_assoc], Nat.add_mul_mod_self_left]
theorem valF_digB (n k : Nat) (h : n < 2 ^ k) (f : Nat → Nat) (a : Nat) (hf : ∀ i, i < k → f (a + i) = (digB n k).getD i 0) : valF f a k = n := by
  have key : ∀ j, j ≤ k → valF f a j = n / 2 ^ (k - j) := by
    intro j hj
    induction j with
    | zero => rw [valF, Nat.sub_zero, Nat.div_eq_of_lt h]
    | succ j ih =>
      rw [valF, ih (by omega), hf j (by omega), digB_get _ _ _ (by omega)]
      have e : k - j = (k - (j + 1)) + 1 := by omega
      rw [e, Nat.pow_succ, ← Nat.div_div_eq_div_mul, show k - 1 - j = k - (j + 1) from by omega]
      omega
  have := key k (Nat.le_refl _)
  simpa using this
theorem bitF_lt (s : ByteArray) (i : Nat) : bitF s i < 2 := Nat.mod_lt _ (by omega)

/-! ### One byte, there and back -/
theorem TOk.st {t : ByteArray} (h : TOk t) {v a : Nat} (hv : 1 ≤ tShr t v) (ha : a < 64) : stS t v a < 64 ∧ tOwn t (stS t v a) = v ∧ tNum t (stS t v a) = (64 + a) / 2 ^ stJ t v a ∧ kOf (tNum t (stS t v a)) = stJ t v a ∧ stJ t v a ≤ 6 := by
  obtain ⟨h1, h2, h3, h4⟩ := half_spec (m := 64 + a) (q := tShr t v) (by omega) (by omega) hv (h.le v)
  obtain ⟨s, hs, ho, hn⟩ := h.find h1 h2
  have e : stS t v a = s := by
    unfold stS stJ
    rw [← ho, ← hn] at *
    rw [← hn]
    exact slot_self hs
  rw [e]
  refine ⟨hs, ho, hn, ?_, h4⟩
  rw [hn]; exact h3
theorem TOk.back {t : ByteArray} (h : TOk t) {s b : Nat} (hs : s < 64) (hb : b < 2 ^ kOf (tNum t s)) :
    64 ≤ tNum t s * 2 ^ kOf (tNum t s) + b ∧ tNum t s * 2 ^ kOf (tNum t s) + b - 64 < 64 ∧ stS t (tOwn t s) (tNum t s * 2 ^ kOf (tNum t s) + b - 64) = s ∧ stB t (tOwn t s) (tNum t s * 2 ^ kOf (tNum t s) + b - 64) = digB b (kOf (tNum t s)) := by
  obtain ⟨n1, n2⟩ := h.num_bd hs
  obtain ⟨d1, d2, d3, d4⟩ := double_spec (h.one s hs) (h.le _) n1 n2 hb
  have ej : stJ t (tOwn t s) (tNum t s * 2 ^ kOf (tNum t s) + b - 64) = kOf (tNum t s) := by
    unfold stJ
    rw [show 64 + (tNum t s * 2 ^ kOf (tNum t s) + b - 64) = tNum t s * 2 ^ kOf (tNum t s) + b from by omega]
    exact d4
  refine ⟨d1, by omega, ?_, ?_⟩
  · unfold stS
    rw [ej, show 64 + (tNum t s * 2 ^ kOf (tNum t s) + b - 64) = tNum t s * 2 ^ kOf (tNum t s) + b from by omega, d3]
    exact slot_self hs
  · unfold stB
    rw [ej, show 64 + (tNum t s * 2 ^ kOf (tNum t s) + b - 64) = tNum t s * 2 ^ kOf (tNum t s) + b from by omega, digB_mod]
end Go.Proofs.Ytjnieekhagmdfaa

/-
  P4, plain: the greedy shares are the ranked shares; the two tables are one.
-/
import Derived.Test.YtjnieekhagmdfaaTabMath
namespace Go.Proofs.Ytjnieekhagmdfaa

/-! ### The neediest -/
theorem cross {a b c d e f : Int} (hb : 0 < b) (hd : 0 ≤ d) (hf : 0 < f) (h1 : a * d ≤ c * b) (h2 : c * f < e * d) : a * f < e * b := by
  rcases Int.lt_or_le 0 d with hd | hd
  · have p1 : a * d * f ≤ c * b * f := Int.mul_le_mul_of_nonneg_right h1 (Int.le_of_lt hf)
    have p2 : c * f * b < e * d * b := Int.mul_lt_mul_of_pos_right h2 hb
    have q1 : a * d * f = (a * f) * d := by rw [Int.mul_assoc, Int.mul_comm d f, ← Int.mul_assoc]
    have q2 : c * b * f = c * f * b := by rw [Int.mul_assoc, Int.mul_comm b f, ← Int.mul_assoc]
    have q3 : e * d * b = (e * b) * d := by rw [Int.mul_assoc, Int.mul_comm d b, ← Int.mul_assoc]
    exact Int.lt_of_mul_lt_mul_right (a := d) (by omega) (Int.le_of_lt hd)
  · obtain rfl : d = 0 := by omega
    simp at h1 h2
    have p2 : c * f < 0 := h2
    have p3 : 0 ≤ c := Int.le_of_mul_le_mul_right (a := b) (by simpa using h1) hb
    have := Int.mul_nonneg p3 (Int.le_of_lt hf)
    omega

theorem ndTo_spec (T sh : Nat → Int) (hs : ∀ v, 0 ≤ sh v) (k : Nat) :
    ((ndTo T sh k).2 = false → ∀ w, w < k → sh w = 0) ∧
    ((ndTo T sh k).2 = true → (ndTo T sh k).1 < k ∧ 0 < sh (ndTo T sh k).1 ∧ ∀ w, w < k → 0 < sh w → T w * sh (ndTo T sh k).1 ≤ T (ndTo T sh k).1 * sh w ∧ (w < (ndTo T sh k).1 → T w * sh (ndTo T sh k).1 < T (ndTo T sh k).1 * sh w)) := by
  induction k with
  | zero => simp [ndTo]
  | succ k ih =>
    rw [ndTo_step]
    generalize ndTo T sh k = r at *
    obtain ⟨b, f⟩ := r
    simp only at ih ⊢
    obtain ⟨i1, i2⟩ := ih
    by_cases c : sh k = 0
    · rw [if_pos c]
      simp only
      refine ⟨fun h w hw => ?_, fun h => ?_⟩
      · rcases Nat.lt_or_ge w k with d | d
        · exact i1 h w d
        · obtain rfl : w = k := by omega
          exact c
      · obtain ⟨j1, j2, j3⟩ := i2 h
        refine ⟨by omega, j2, fun w hw hp => ?_⟩
        rcases Nat.lt_or_ge w k with d | d
        · exact j3 w d hp
        · obtain rfl : w = k := by omega
          omega
    · have hk : 0 < sh k := by have := hs k; omega
      rw [if_neg c]
      by_cases e : f = false ∨ T b * sh k < T k * sh b
      · rw [if_pos e]
        simp only
        refine ⟨fun h => by simp at h, fun _ => ⟨by omega, hk, fun w hw hp => ?_⟩⟩
        rcases Nat.lt_or_ge w k with d | d
        · cases f with
          | false => have := i1 rfl w d; omega
          | true =>
            obtain ⟨j1, j2, j3⟩ := i2 rfl
            have l1 := (j3 w d hp).1
            have l2 : T b * sh k < T k * sh b := by simpa using e
            have := cross (a := T w) (b := sh w) (c := T b) (d := sh b) (e := T k) (f := sh k) hp (by omega) hk l1 l2
            exact ⟨Int.le_of_lt this, fun _ => this⟩
        · obtain rfl : w = k := by omega
          exact ⟨Int.le_refl _, fun h => by omega⟩
      · rw [if_neg e]
        simp only
        have ef : f = true := by cases f <;> simp_all
        subst ef
        have el : T k * sh b ≤ T b * sh k := by simp at e; exact e
        refine ⟨fun h => by simp at h, fun _ => ?_⟩
        obtain ⟨j1, j2, j3⟩ := i2 rfl
        refine ⟨by omega, j2, fun w hw hp => ?_⟩
        rcases Nat.lt_or_ge w k with d | d
        · exact j3 w d hp
        · obtain rfl : w = k := by omega
          exact ⟨el, fun h => by omega⟩

/-- The pair (w, i) goes ahead of the pair (v, j): its quotient is greater, or the same and the value less. -/
def Prec (T : Nat → Int) (w : Nat) (i : Int) (v : Nat) (j : Int) : Prop := T v * i < T w * j ∨ (T w * j = T v * i ∧ w < v)

structure Fil (T A : Nat → Int) (m : Int) (n : Nat) : Prop where
  zero : ∀ v, A v = 0 → fillTo T A n v = 0
  one : ∀ v, A v = 1 → 1 ≤ fillTo T A n v
  sum : sumN (fillTo T A n) 256 = m + n
  down : ∀ v w j i, A v = 1 → A w = 1 → 1 ≤ j → j < fillTo T A n v → 1 ≤ i → Prec T w i v j → i < fillTo T A n w

theorem fil (T A : Nat → Int) (m : Int) (hT : ∀ v, A v = 1 → 0 < T v) (hA : ∀ v, A v = 0 ∨ A v = 1) (ho : ∀ v, 256 ≤ v → A v = 0) (hm : sumN A 256 = m) (v0 : Nat) (hv0 : A v0 = 1) (n : Nat) :
    Fil T A m n ∧ (nd T (fillTo T A n)).2 = true := by
  have found : ∀ n, Fil T A m n → (nd T (fillTo T A n)).2 = true := by
    intro n F
    have hs : ∀ v, 0 ≤ fillTo T A n v := fun v => by
      rcases hA v with q | q
      · rw [F.zero v q]; omega
      · have := F.one v q; omega
    have sp := ndTo_spec T (fillTo T A n) hs 256
    have e := F.one v0 hv0
    cases h : (nd T (fillTo T A n)).2 with
    | true => rfl
    | false =>
      have hv : v0 < 256 := by
        rcases Nat.lt_or_ge v0 256 with d | d
        · exact d
        · have := ho v0 d; omega
      have := sp.1 h v0 hv
      omega
  suffices h : Fil T A m n from ⟨h, found n h⟩
  induction n with
  | zero =>
    refine ⟨fun v h => h, fun v h => by show 1 ≤ A v; omega, by show sumN A 256 = _; rw [hm]; simp, fun v w j i hv hw h1 h2 h3 h4 => ?_⟩
    change j < A v at h2
    omega
  | succ n F =>
    have hf := found n F
    have hs : ∀ v, 0 ≤ fillTo T A n v := fun v => by
      rcases hA v with q | q
      · rw [F.zero v q]; omega
      · have := F.one v q; omega
    have sp := (ndTo_spec T (fillTo T A n) hs 256).2 hf
    have e1 := fillTo_step T A n
    change (nd T (fillTo T A n)).1 < 256 ∧ 0 < fillTo T A n (nd T (fillTo T A n)).1 ∧ ∀ w, w < 256 → 0 < fillTo T A n w → T w * fillTo T A n (nd T (fillTo T A n)).1 ≤ T (nd T (fillTo T A n)).1 * fillTo T A n w ∧ (w < (nd T (fillTo T A n)).1 → T w * fillTo T A n (nd T (fillTo T A n)).1 < T (nd T (fillTo T A n)).1 * fillTo T A n w) at sp
    generalize (nd T (fillTo T A n)).1 = b at *
    obtain ⟨s1, s2, s3⟩ := sp
    have hAb : A b = 1 := by
      rcases hA b with q | q
      · have := F.zero b q; omega
      · exact q
    refine ⟨fun v h => ?_, fun v h => ?_, ?_, fun v w j i hv hw h1 h2 h3 h4 => ?_⟩
    · rw [e1]; unfold upd
      by_cases c : v = b
      · subst c; omega
      · rw [if_neg c]; exact F.zero v h
    · rw [e1]; unfold upd
      by_cases c : v = b
      · subst c; rw [if_pos rfl]; omega
      · rw [if_neg c]; exact F.one v h
    · rw [e1, sumN_upd, if_pos s1, F.sum]; omega
    · have keep : i < fillTo T A n w → i < fillTo T A (n + 1) w := by
        intro h
        rw [e1]; unfold upd
        by_cases c : w = b
        · rw [if_pos c]; subst c; omega
        · rw [if_neg c]; exact h
      rw [e1] at h2
      unfold upd at h2
      by_cases c : v = b
      · rw [if_pos c] at h2
        subst c
        by_cases d : j < fillTo T A n v
        · exact keep (F.down v w j i hv hw h1 d h3 h4)
        · have ej : j = fillTo T A n v := by omega
          by_cases cw : w = v
          · subst cw
            rcases h4 with h4 | h4
            · have : i < j := Int.lt_of_mul_lt_mul_left (a := T w) h4 (Int.le_of_lt (hT w hw))
              exact keep (by omega)
            · omega
          · apply keep
            apply Decidable.byContradiction
            intro hc
            have hiw : fillTo T A n w ≤ i := by omega
            have hw256 : w < 256 := by
              rcases Nat.lt_or_ge w 256 with d' | d'
              · exact d'
              · have := ho w d'; omega
            have hpw := F.one w hw
            have l := s3 w hw256 (by omega)
            rw [← ej] at l
            have mono : T v * fillTo T A n w ≤ T v * i := Int.mul_le_mul_of_nonneg_left hiw (Int.le_of_lt (hT v hv))
            rcases h4 with h4 | ⟨h4, h5⟩
            · omega
            · have := l.2 h5; omega
      · rw [if_neg c] at h2
        exact keep (F.down v w j i hv hw h1 h2 h3 h4)

/-! ### The rank -/
def cOf (T : Nat → Int) (v : Nat) (i : Int) (w : Nat) : Int := (T w * i - 1) / T v + if w < v ∧ T w * i % T v = 0 then 1 else 0
theorem rankTo_take (T : Nat → Int) (ms : List Nat) (v : Nat) (i : Int) (k : Nat) (hk : k ≤ ms.length) : rankTo T ms v i k = ((ms.take k).map (cOf T v i)).sum := by
  induction k with
  | zero => simp [rankTo]
  | succ k ih =>
    rw [rankTo, ih (by omega), List.take_succ_eq_append_getElem (by omega), List.map_append, List.sum_append]
    have : mget ms k = ms[k] := by unfold mget; rw [List.getD_eq_getElem?_getD, List.getElem?_eq_getElem (by omega)]; rfl
    rw [this]
    simp only [List.map_cons, List.map_nil, List.sum_cons, List.sum_nil, cOf]
    omega
/-- (w, j) goes ahead of (v, i) just if j is at most c. -/
theorem cOf_iff (T : Nat → Int) (v w : Nat) (i j : Int) (hv : 0 < T v) : j ≤ cOf T v i w ↔ Prec T w j v i := by
  unfold cOf Prec
  have d1 := Int.emod_add_mul_ediv (T w * i) (T v)
  have d2 := Int.emod_nonneg (T w * i) (Int.ne_of_gt hv)
  have d3 := Int.emod_lt_of_pos (T w * i) hv
  have l1 : ∀ q : Int, q ≤ (T w * i - 1) / T v ↔ q * T v ≤ T w * i - 1 := fun q => Int.le_ediv_iff_mul_le hv
  have hc : T v * j = j * T v := Int.mul_comm _ _
  by_cases c : w < v ∧ T w * i % T v = 0
  · rw [if_pos c]
    have e := l1 (j - 1)
    have e2 : (j - 1) * T v = j * T v - T v := by rw [Int.sub_mul]; omega
    have e3 : T w * i = T v * (T w * i / T v) := by omega
    constructor
    · intro h
      have : (j - 1) * T v ≤ T w * i - 1 := e.1 (by omega)
      have h5 : j * T v - T v < T w * i := by omega
      generalize T w * i / T v = Q at e3
      have h6 : j * T v < (Q + 1) * T v := by rw [Int.add_mul]; rw [Int.mul_comm Q]; omega
      have h7 := Int.lt_of_mul_lt_mul_right h6 (Int.le_of_lt hv)
      have h8 : j * T v ≤ Q * T v := Int.mul_le_mul_of_nonneg_right (by omega) (Int.le_of_lt hv)
      rw [Int.mul_comm Q] at h8
      omega
    · intro h
      have : (j - 1) * T v ≤ T w * i - 1 := by omega
      have := e.2 this
      omega
  · rw [if_neg c]
    have e := l1 j
    rw [Int.add_zero]
    constructor
    · intro h; have := e.1 h; left; omega
    · intro h
      refine e.2 ?_
      rcases h with h | ⟨h, h'⟩
      · omega
      · exfalso
        apply c
        refine ⟨h', ?_⟩
        rw [h, Int.mul_emod_right]
end Go.Proofs.Ytjnieekhagmdfaa

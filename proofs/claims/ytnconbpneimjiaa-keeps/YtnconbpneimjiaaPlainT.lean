/-
  Plain texts, put together: TabRefDefs, TabMath, TabGreed, TabEnd.
-/
import Derived.Test.YtnconbpneimjiaaPlain

/-
  P4, plain: what the document's answer on tables reckons.
-/
namespace Go.Proofs.Ytnconbpneimjiaa
open Go.PlainAid

/-- Of the values below w, how many stand ahead of v. -/
def aheadTo (l : Nat → Int) (v : Nat) : Nat → Int
  | 0 => 0
  | w + 1 => aheadTo l v w + if l v < l w ∨ (l w = l v ∧ w < v) then 1 else 0
def memB (l : Nat → Int) (v : Nat) : Bool := decide (l v ≠ 0 ∧ aheadTo l v 256 < 32)
def memTo (l : Nat → Int) : Nat → List Nat
  | 0 => []
  | v + 1 => memTo l v ++ if memB l v then [v] else []
def mget (ms : List Nat) (k : Nat) : Nat := ms.getD k 0
def rankTo (l : Nat → Int) (ms : List Nat) (v : Nat) (i : Int) : Nat → Int
  | 0 => 0
  | k + 1 => rankTo l ms v i k + (l (mget ms k) * i - 1) / l v + if mget ms k < v ∧ l (mget ms k) * i % l v = 0 then 1 else 0
def rnk (l : Nat → Int) (ms : List Nat) (v : Nat) (i : Int) : Int := rankTo l ms v i ms.length
/-- The share of v, the first j places looked at. -/
def shTo (l : Nat → Int) (ms : List Nat) (v : Nat) : Nat → Int
  | 0 => 1
  | j + 1 => shTo l ms v j + if rnk l ms v ((j : Int) + 1) < 64 - (ms.length : Int) then 1 else 0
def refOut (l : Nat → Int) (ms : List Nat) : Nat → List Int
  | 0 => []
  | k + 1 => refOut l ms k ++ [(mget ms k : Int), shTo l ms (mget ms k) 63]

theorem ahead_bd (l : Nat → Int) (v k : Nat) : 0 ≤ aheadTo l v k ∧ aheadTo l v k ≤ k := by
  induction k with
  | zero => simp [aheadTo]
  | succ k ih => rw [aheadTo]; split <;> omega
theorem memTo_len (l : Nat → Int) (k : Nat) : (memTo l k).length ≤ k := by
  induction k with
  | zero => simp [memTo]
  | succ k ih => rw [memTo]; split <;> simp <;> omega
theorem memTo_step (l : Nat → Int) (k : Nat) : memTo l (k + 1) = memTo l k ++ if memB l k then [k] else [] := rfl
theorem shTo_bd (l : Nat → Int) (ms : List Nat) (v k : Nat) : 1 ≤ shTo l ms v k ∧ shTo l ms v k ≤ k + 1 := by
  induction k with
  | zero => simp [shTo]
  | succ k ih => rw [shTo]; split <;> omega
theorem refOut_len (l : Nat → Int) (ms : List Nat) (k : Nat) : (refOut l ms k).length = 2 * k := by
  induction k with
  | zero => simp [refOut]
  | succ k ih => rw [refOut]; simp; omega
theorem quo_bd {a i v : Int} (h1 : 1 ≤ a ∧ a ≤ 800) (h2 : 1 ≤ i ∧ i ≤ 63) (h3 : 1 ≤ v) : 1 ≤ a * i ∧ a * i ≤ 50400 ∧ 0 ≤ (a * i - 1) / v ∧ (a * i - 1) / v ≤ 50400 := by
  have e1 : 1 * 1 ≤ a * i := Int.mul_le_mul h1.1 h2.1 (by omega) (by omega)
  have e2 : a * i ≤ 800 * 63 := Int.mul_le_mul h1.2 h2.2 (by omega) (by omega)
  have e3 : 0 ≤ (a * i - 1) / v := Int.ediv_nonneg (by omega) (by omega)
  have e4 : (a * i - 1) / v ≤ a * i - 1 := Int.ediv_le_self _ (by omega)
  omega
theorem rank_bd (l : Nat → Int) (ms : List Nat) (v : Nat) (i : Int) (k : Nat) (hl : ∀ j, j < k → 1 ≤ l (mget ms j) ∧ l (mget ms j) ≤ 800) (hi : 1 ≤ i ∧ i ≤ 63) (hv : 1 ≤ l v) : 0 ≤ rankTo l ms v i k ∧ rankTo l ms v i k ≤ 50401 * k := by
  induction k with
  | zero => simp [rankTo]
  | succ k ih =>
    have := ih (fun j hj => hl j (by omega))
    have q := quo_bd (hl k (by omega)) hi hv
    rw [rankTo]
    split <;> omega
end Go.Proofs.Ytnconbpneimjiaa

/-
  P4, plain: giving one slot after the other to the greatest quotient is ranking all quotients.
-/
namespace Go.Proofs.Ytnconbpneimjiaa

/-! ### Sums over 0 .. n - 1 -/
def sumN (f : Nat → Int) : Nat → Int
  | 0 => 0
  | n + 1 => sumN f n + f n
theorem sumN_congr {f g : Nat → Int} (n : Nat) (h : ∀ i, i < n → f i = g i) : sumN f n = sumN g n := by
  induction n with
  | zero => rfl
  | succ n ih => rw [sumN, sumN, ih (fun i hi => h i (by omega)), h n (by omega)]
theorem sumN_le {f g : Nat → Int} (n : Nat) (h : ∀ i, i < n → f i ≤ g i) : sumN f n ≤ sumN g n := by
  induction n with
  | zero => simp [sumN]
  | succ n ih =>
    have h1 := ih (fun i hi => h i (by omega))
    have h2 := h n (by omega)
    rw [sumN, sumN]; omega
theorem sumN_lt {f g : Nat → Int} (n a : Nat) (ha : a < n) (h : ∀ i, i < n → f i ≤ g i) (hs : f a < g a) : sumN f n < sumN g n := by
  induction n with
  | zero => omega
  | succ n ih =>
    rw [sumN, sumN]
    have h2 := h n (by omega)
    rcases Nat.lt_or_ge a n with c | c
    · have h1 := ih c (fun i hi => h i (by omega)); omega
    · obtain rfl : a = n := by omega
      have h1 := sumN_le a (fun i hi => h i (by omega)); omega
theorem sumN_upd (f : Nat → Int) (n b : Nat) (x : Int) : sumN (upd f b x) n = sumN f n + if b < n then x - f b else 0 := by
  induction n with
  | zero => simp [sumN]
  | succ n ih =>
    rw [sumN, sumN, ih]
    by_cases c : b < n
    · rw [if_pos c, if_pos (by omega)]; unfold upd; rw [if_neg (by omega)]; omega
    · rw [if_neg c]
      by_cases d : b = n
      · subst d; rw [if_pos (by omega)]; unfold upd; rw [if_pos rfl]; omega
      · rw [if_neg (by omega)]; unfold upd; rw [if_neg (by omega)]; omega
theorem sumN_zero (n : Nat) : sumN (fun _ => 0) n = 0 := by
  induction n with
  | zero => rfl
  | succ n ih => rw [sumN, ih]; rfl
theorem sumN_ge {f : Nat → Int} (n a : Nat) (ha : a < n) (h : ∀ i, i < n → 0 ≤ f i) : f a ≤ sumN f n := by
  have h1 := sumN_le (f := upd (fun _ => 0) a (f a)) (g := f) n (fun i hi => by
    unfold upd
    by_cases c : i = a
    · subst c; simp
    · rw [if_neg c]; exact h i hi)
  rw [sumN_upd, sumN_zero, if_pos ha] at h1
  omega

/-! ### The most frequent -/
theorem mfTo_spec (T sh : Nat → Int) (hT : ∀ v, 0 ≤ T v) (k : Nat) :
    0 ≤ (mfTo T sh k).2 ∧ (0 < (mfTo T sh k).2 → (mfTo T sh k).1 < k ∧ sh (mfTo T sh k).1 = 0 ∧ T (mfTo T sh k).1 = (mfTo T sh k).2) ∧
      ∀ w, w < k → sh w = 0 → T w ≤ (mfTo T sh k).2 ∧ (T w = (mfTo T sh k).2 → 0 < (mfTo T sh k).2 → (mfTo T sh k).1 ≤ w) := by
  induction k with
  | zero => simp [mfTo]
  | succ k ih =>
    obtain ⟨i1, i2, i3⟩ := ih
    rw [mfTo]
    generalize mfTo T sh k = r at *
    obtain ⟨b, m⟩ := r
    simp only at i1 i2 i3 ⊢
    by_cases c : sh k = 0 ∧ m < T k
    · rw [if_pos c]
      simp only
      refine ⟨hT k, fun _ => ⟨by omega, c.1, trivial⟩, fun w hw hz => ?_⟩
      rcases Nat.lt_or_ge w k with d | d
      · have := (i3 w d hz).1
        exact ⟨by omega, fun e _ => by omega⟩
      · obtain rfl : w = k := by omega
        exact ⟨Int.le_refl _, fun _ _ => Nat.le_refl _⟩
    · rw [if_neg c]
      simp only
      refine ⟨i1, fun h => ⟨by have := (i2 h).1; omega, (i2 h).2⟩, fun w hw hz => ?_⟩
      rcases Nat.lt_or_ge w k with d | d
      · exact i3 w d hz
      · obtain rfl : w = k := by omega
        have : T w ≤ m := by
          by_cases e : m < T w
          · exact absurd ⟨hz, e⟩ c
          · omega
        exact ⟨this, fun e h => by have := (i2 h).1; omega⟩

/-- w goes ahead of v. -/
def Ahead (T : Nat → Int) (w v : Nat) : Prop := T v < T w ∨ (T w = T v ∧ w < v)

structure Adm (T : Nat → Int) (n : Nat) : Prop where
  bit : ∀ v, admTo T n v = 0 ∨ admTo T n v = 1
  out : ∀ v, 256 ≤ v → admTo T n v = 0
  pos : ∀ v, admTo T n v = 1 → 0 < T v
  down : ∀ v w, w < 256 → admTo T n v = 1 → Ahead T w v → admTo T n w = 1
  sum : admN T n = sumN (admTo T n) 256
  le : admN T n ≤ n
  full : admN T n = n ∨ ∀ w, w < 256 → 0 < T w → admTo T n w = 1

theorem adm (T : Nat → Int) (hT : ∀ v, 0 ≤ T v) (n : Nat) : Adm T n := by
  induction n with
  | zero => exact ⟨fun _ => .inl rfl, fun _ _ => rfl, fun v h => by simp [admTo] at h, fun v w _ h _ => by simp [admTo] at h, by rw [admN]; exact (sumN_zero 256).symm, by simp [admN], .inl rfl⟩
  | succ n ih =>
    have sp := mfTo_spec T (admTo T n) hT 256
    have hb := mf_lt T (admTo T n)
    by_cases hf : 0 < (mf T (admTo T n)).2
    · have e1 := admTo_hit T n hf
      have e2 := admN_hit T n hf
      change 0 < (mf T (admTo T n)).2 at hf
      obtain ⟨_, s2, s3⟩ := sp
      change 0 < (mf T (admTo T n)).2 → (mf T (admTo T n)).1 < 256 ∧ admTo T n (mf T (admTo T n)).1 = 0 ∧ T (mf T (admTo T n)).1 = (mf T (admTo T n)).2 at s2
      change ∀ w, w < 256 → admTo T n w = 0 → T w ≤ (mf T (admTo T n)).2 ∧ (T w = (mf T (admTo T n)).2 → 0 < (mf T (admTo T n)).2 → (mf T (admTo T n)).1 ≤ w) at s3
      generalize mf T (admTo T n) = r at *
      obtain ⟨b, m⟩ := r
      simp only at hf hb s2 s3 e1 e2
      obtain ⟨_, z, tb⟩ := s2 hf
      refine ⟨fun v => ?_, fun v hv => ?_, fun v h => ?_, fun v w hw h ha => ?_, ?_, ?_, ?_⟩
      · rw [e1]; unfold upd; split
        · exact .inr rfl
        · exact ih.bit v
      · rw [e1]; unfold upd; rw [if_neg (by omega)]; exact ih.out v hv
      · rw [e1] at h; unfold upd at h
        by_cases c : v = b
        · subst c; omega
        · rw [if_neg c] at h; exact ih.pos v h
      · rw [e1] at h ⊢; unfold upd at h ⊢
        by_cases d : w = b
        · rw [if_pos d]
        · rw [if_neg d]
          by_cases c : v = b
          · subst c
            rcases ih.bit w with q | q
            · have := s3 w hw q
              rcases ha with ha | ⟨ha, hl⟩
              · omega
              · have := this.2 (by omega) hf; omega
            · exact q
          · rw [if_neg c] at h
            exact ih.down v w hw h ha
      · rw [e1, e2, sumN_upd, if_pos hb, z, ih.sum]; omega
      · have := ih.le; rw [e2]; omega
      · rcases ih.full with q | q
        · left; rw [e2, q]; omega
        · have := q b hb (by omega); omega
    · have e1 : admTo T (n + 1) = admTo T n := by rw [admTo, if_neg hf]
      have e2 : admN T (n + 1) = admN T n := by rw [admN, if_neg hf]
      refine ⟨?_, ?_, ?_, ?_, ?_, ?_, ?_⟩
      · rw [e1]; exact ih.bit
      · rw [e1]; exact ih.out
      · rw [e1]; exact ih.pos
      · rw [e1]; exact ih.down
      · rw [e1, e2]; exact ih.sum
      · have := ih.le; rw [e2]; omega
      · right
        intro w hw hp
        rw [e1]
        rcases ih.bit w with q | q
        · have := (sp.2.2 w hw q).1
          change T w ≤ (mf T (admTo T n)).2 at this
          omega
        · exact q

/-! ### The members -/
theorem ahead_sum (T : Nat → Int) (v k : Nat) : aheadTo T v k = sumN (fun w => if T v < T w ∨ (T w = T v ∧ w < v) then 1 else 0) k := by
  induction k with
  | zero => rfl
  | succ k ih => rw [aheadTo, sumN, ih]
theorem mem_iff (T : Nat → Int) (hT : ∀ v, 0 ≤ T v) (v : Nat) (hv : v < 256) : memB T v = true ↔ admTo T 32 v = 1 := by
  have A := adm T hT 32
  have hle := A.le
  constructor
  · intro h
    simp only [memB, decide_eq_true_eq] at h
    rcases A.bit v with q | q
    · exfalso
      have hp : 0 < T v := by have := hT v; omega
      rcases A.full with f | f
      · have : sumN (admTo T 32) 256 ≤ aheadTo T v 256 := by
          rw [ahead_sum]
          refine sumN_le 256 fun w hw => ?_
          rcases A.bit w with r | r
          · rw [r]; split <;> omega
          · rw [r, if_pos]; omega
            apply Decidable.byContradiction
            intro hn
            have hne : w ≠ v := by rintro rfl; omega
            have : admTo T 32 v = 1 := A.down w v hv r (by unfold Ahead; omega)
            omega
        have := A.sum
        omega
      · have := f v hv hp; omega
    · exact q
  · intro h
    have hp := A.pos v h
    simp only [memB, decide_eq_true_eq]
    refine ⟨by omega, ?_⟩
    have : aheadTo T v 256 < sumN (admTo T 32) 256 := by
      rw [ahead_sum]
      refine sumN_lt 256 v hv (fun w hw => ?_) ?_
      · split
        · rename_i c
          rw [A.down v w hw h c]; omega
        · rcases A.bit w with r | r <;> omega
      · rw [if_neg (by omega), h]; omega
    have := A.sum
    omega
theorem mem_memTo (T : Nat → Int) (k x : Nat) : x ∈ memTo T k ↔ x < k ∧ memB T x = true := by
  induction k with
  | zero => simp [memTo]
  | succ k ih =>
    rw [memTo, List.mem_append, ih]
    by_cases c : memB T k = true
    · rw [if_pos c]
      simp only [List.mem_singleton]
      constructor
      · rintro (h | rfl)
        · exact ⟨by omega, h.2⟩
        · exact ⟨by omega, c⟩
      · rintro ⟨h1, h2⟩
        rcases Nat.lt_or_ge x k with d | d
        · exact .inl ⟨d, h2⟩
        · right; omega
    · rw [if_neg c]
      simp only [List.not_mem_nil, or_false]
      constructor
      · rintro ⟨h1, h2⟩; exact ⟨by omega, h2⟩
      · rintro ⟨h1, h2⟩
        refine ⟨?_, h2⟩
        rcases Nat.lt_or_ge x k with d | d
        · exact d
        · obtain rfl : x = k := by omega
          exact absurd h2 c
theorem mget_mem {ms : List Nat} {j : Nat} (h : j < ms.length) : mget ms j ∈ ms := by
  unfold mget; rw [List.getD_eq_getElem?_getD, List.getElem?_eq_getElem h]; exact List.getElem_mem h
/-- A sum over the members, as a sum over all values. -/
theorem sum_mem (T c : Nat → Int) (k : Nat) : ((memTo T k).map c).sum = sumN (fun w => if memB T w then c w else 0) k := by
  induction k with
  | zero => rfl
  | succ k ih =>
    rw [memTo, List.map_append, List.sum_append, ih, sumN]
    split <;> simp
theorem len_mem (T : Nat → Int) (hT : ∀ v, 0 ≤ T v) : ((memTo T 256).length : Int) = admN T 32 := by
  have e : ∀ l : List Nat, ((l.map fun _ => (1 : Int)).sum) = (l.length : Int) := by
    intro l
    induction l with
    | nil => rfl
    | cons a l ih => rw [List.map_cons, List.sum_cons, ih, List.length_cons]; omega
  rw [← e, sum_mem, (adm T hT 32).sum]
  refine sumN_congr 256 fun w hw => ?_
  by_cases c : memB T w = true
  · rw [if_pos c, (mem_iff T hT w hw).1 c]
  · rw [if_neg c]
    rcases (adm T hT 32).bit w with q | q
    · exact q.symm
    · exact absurd ((mem_iff T hT w hw).2 q) c
end Go.Proofs.Ytnconbpneimjiaa

/-
  P4, plain: the greedy shares are the ranked shares; the two tables are one.
-/
namespace Go.Proofs.Ytnconbpneimjiaa

/-! ### The neediest -/
theorem cross {a b c d e f : Int} (hb : 0 < b) (hd : 0 ≤ d) (hf : 0 < f) (h1 : a * d ≤ c * b) (h2 : c * f < e * d) : a * f < e * b := by
  rcases Int.lt_or_le 0 d with hd | hd
  · have p1 : a * d * f ≤ c * b * f := Int.mul_le_mul_of_nonneg_right h1 (Int.le_of_lt hf)
    have p2 : c * f * b < e * d * b := Int.mul_lt_mul_of_pos_right h2 hb
    have q1 : a * d * f = (a * f) * d := by rw [Int.mul_assoc, Int.mul_comm d f, ← Int.mul_assoc]
    have q2 : c * b * f = c * f * b := by rw [Int.mul_assoc, Int.mul_comm b f, ← Int.mul_assoc]
    have q3 : e * d * b = (e * b) * d := by rw [Int.mul_assoc, Int.mul_comm d b, ← Int.mul_assoc]
    exact Int.lt_of_mul_lt_mul_right (a := d) (by omega) (Int.le_of_lt hd)
  · obtain rfl : d = 0 := by omega
    simp at h1 h2
    have p2 : c * f < 0 := h2
    have p3 : 0 ≤ c := Int.le_of_mul_le_mul_right (a := b) (by simpa using h1) hb
    have := Int.mul_nonneg p3 (Int.le_of_lt hf)
    omega

theorem ndTo_spec (T sh : Nat → Int) (hs : ∀ v, 0 ≤ sh v) (k : Nat) :
    ((ndTo T sh k).2 = false → ∀ w, w < k → sh w = 0) ∧
    ((ndTo T sh k).2 = true → (ndTo T sh k).1 < k ∧ 0 < sh (ndTo T sh k).1 ∧ ∀ w, w < k → 0 < sh w → T w * sh (ndTo T sh k).1 ≤ T (ndTo T sh k).1 * sh w ∧ (w < (ndTo T sh k).1 → T w * sh (ndTo T sh k).1 < T (ndTo T sh k).1 * sh w)) := by
  induction k with
  | zero => simp [ndTo]
  | succ k ih =>
    rw [ndTo_step]
    generalize ndTo T sh k = r at *
    obtain ⟨b, f⟩ := r
    simp only at ih ⊢
    obtain ⟨i1, i2⟩ := ih
    by_cases c : sh k = 0
    · rw [if_pos c]
      simp only
      refine ⟨fun h w hw => ?_, fun h => ?_⟩
      · rcases Nat.lt_or_ge w k with d | d
        · exact i1 h w d
        · obtain rfl : w = k := by omega
          exact c
      · obtain ⟨j1, j2, j3⟩ := i2 h
        refine ⟨by omega, j2, fun w hw hp => ?_⟩
        rcases Nat.lt_or_ge w k with d | d
        · exact j3 w d hp
        · obtain rfl : w = k := by omega
          omega
    · have hk : 0 < sh k := by have := hs k; omega
      rw [if_neg c]
      by_cases e : f = false ∨ T b * sh k < T k * sh b
      · rw [if_pos e]
        simp only
        refine ⟨fun h => by simp at h, fun _ => ⟨by omega, hk, fun w hw hp => ?_⟩⟩
        rcases Nat.lt_or_ge w k with d | d
        · cases f with
          | false => have := i1 rfl w d; omega
          | true =>
            obtain ⟨j1, j2, j3⟩ := i2 rfl
            have l1 := (j3 w d hp).1
            have l2 : T b * sh k < T k * sh b := by simpa using e
            have := cross (a := T w) (b := sh w) (c := T b) (d := sh b) (e := T k) (f := sh k) hp (by omega) hk l1 l2
            exact ⟨Int.le_of_lt this, fun _ => this⟩
        · obtain rfl : w = k := by omega
          exact ⟨Int.le_refl _, fun h => by omega⟩
      · rw [if_neg e]
        simp only
        have ef : f = true := by cases f <;> simp_all
        subst ef
        have el : T k * sh b ≤ T b * sh k := by simp at e; exact e
        refine ⟨fun h => by simp at h, fun _ => ?_⟩
        obtain ⟨j1, j2, j3⟩ := i2 rfl
        refine ⟨by omega, j2, fun w hw hp => ?_⟩
        rcases Nat.lt_or_ge w k with d | d
        · exact j3 w d hp
        · obtain rfl : w = k := by omega
          exact ⟨el, fun h => by omega⟩

/-- The pair (w, i) goes ahead of the pair (v, j): its quotient is greater, or the same and the value less. -/
def Prec (T : Nat → Int) (w : Nat) (i : Int) (v : Nat) (j : Int) : Prop := T v * i < T w * j ∨ (T w * j = T v * i ∧ w < v)

structure Fil (T A : Nat → Int) (m : Int) (n : Nat) : Prop where
  zero : ∀ v, A v = 0 → fillTo T A n v = 0
  one : ∀ v, A v = 1 → 1 ≤ fillTo T A n v
  sum : sumN (fillTo T A n) 256 = m + n
  down : ∀ v w j i, A v = 1 → A w = 1 → 1 ≤ j → j < fillTo T A n v → 1 ≤ i → Prec T w i v j → i < fillTo T A n w

theorem fil (T A : Nat → Int) (m : Int) (hT : ∀ v, A v = 1 → 0 < T v) (hA : ∀ v, A v = 0 ∨ A v = 1) (ho : ∀ v, 256 ≤ v → A v = 0) (hm : sumN A 256 = m) (v0 : Nat) (hv0 : A v0 = 1) (n : Nat) :
    Fil T A m n ∧ (nd T (fillTo T A n)).2 = true := by
  have found : ∀ n, Fil T A m n → (nd T (fillTo T A n)).2 = true := by
    intro n F
    have hs : ∀ v, 0 ≤ fillTo T A n v := fun v => by
      rcases hA v with q | q
      · rw [F.zero v q]; omega
      · have := F.one v q; omega
    have sp := ndTo_spec T (fillTo T A n) hs 256
    have e := F.one v0 hv0
    cases h : (nd T (fillTo T A n)).2 with
    | true => rfl
    | false =>
      have hv : v0 < 256 := by
        rcases Nat.lt_or_ge v0 256 with d | d
        · exact d
        · have := ho v0 d; omega
      have := sp.1 h v0 hv
      omega
  suffices h : Fil T A m n from ⟨h, found n h⟩
  induction n with
  | zero =>
    refine ⟨fun v h => h, fun v h => by show 1 ≤ A v; omega, by show sumN A 256 = _; rw [hm]; simp, fun v w j i hv hw h1 h2 h3 h4 => ?_⟩
    change j < A v at h2
    omega
  | succ n F =>
    have hf := found n F
    have hs : ∀ v, 0 ≤ fillTo T A n v := fun v => by
      rcases hA v with q | q
      · rw [F.zero v q]; omega
      · have := F.one v q; omega
    have sp := (ndTo_spec T (fillTo T A n) hs 256).2 hf
    have e1 := fillTo_step T A n
    change (nd T (fillTo T A n)).1 < 256 ∧ 0 < fillTo T A n (nd T (fillTo T A n)).1 ∧ ∀ w, w < 256 → 0 < fillTo T A n w → T w * fillTo T A n (nd T (fillTo T A n)).1 ≤ T (nd T (fillTo T A n)).1 * fillTo T A n w ∧ (w < (nd T (fillTo T A n)).1 → T w * fillTo T A n (nd T (fillTo T A n)).1 < T (nd T (fillTo T A n)).1 * fillTo T A n w) at sp
    generalize (nd T (fillTo T A n)).1 = b at *
    obtain ⟨s1, s2, s3⟩ := sp
    have hAb : A b = 1 := by
      rcases hA b with q | q
      · have := F.zero b q; omega
      · exact q
    refine ⟨fun v h => ?_, fun v h => ?_, ?_, fun v w j i hv hw h1 h2 h3 h4 => ?_⟩
    · rw [e1]; unfold upd
      by_cases c : v = b
      · subst c; omega
      · rw [if_neg c]; exact F.zero v h
    · rw [e1]; unfold upd
      by_cases c : v = b
      · subst c; rw [if_pos rfl]; omega
      · rw [if_neg c]; exact F.one v h
    · rw [e1, sumN_upd, if_pos s1, F.sum]; omega
    · have keep : i < fillTo T A n w → i < fillTo T A (n + 1) w := by
        intro h
        rw [e1]; unfold upd
        by_cases c : w = b
        · rw [if_pos c]; subst c; omega
        · rw [if_neg c]; exact h
      rw [e1] at h2
      unfold upd at h2
      by_cases c : v = b
      · rw [if_pos c] at h2
        subst c
        by_cases d : j < fillTo T A n v
        · exact keep (F.down v w j i hv hw h1 d h3 h4)
        · have ej : j = fillTo T A n v := by omega
          by_cases cw : w = v
          · subst cw
            rcases h4 with h4 | h4
            · have : i < j := Int.lt_of_mul_lt_mul_left (a := T w) h4 (Int.le_of_lt (hT w hw))
              exact keep (by omega)
            · omega
          · apply keep
            apply Decidable.byContradiction
            intro hc
            have hiw : fillTo T A n w ≤ i := by omega
            have hw256 : w < 256 := by
              rcases Nat.lt_or_ge w 256 with d' | d'
              · exact d'
              · have := ho w d'; omega
            have hpw := F.one w hw
            have l := s3 w hw256 (by omega)
            rw [← ej] at l
            have mono : T v * fillTo T A n w ≤ T v * i := Int.mul_le_mul_of_nonneg_left hiw (Int.le_of_lt (hT v hv))
            rcases h4 with h4 | ⟨h4, h5⟩
            · omega
            · have := l.2 h5; omega
      · rw [if_neg c] at h2
        exact keep (F.down v w j i hv hw h1 h2 h3 h4)

/-! ### The rank -/
def cOf (T : Nat → Int) (v : Nat) (i : Int) (w : Nat) : Int := (T w * i - 1) / T v + if w < v ∧ T w * i % T v = 0 then 1 else 0
theorem rankTo_take (T : Nat → Int) (ms : List Nat) (v : Nat) (i : Int) (k : Nat) (hk : k ≤ ms.length) : rankTo T ms v i k = ((ms.take k).map (cOf T v i)).sum := by
  induction k with
  | zero => simp [rankTo]
  | succ k ih =>
    rw [rankTo, ih (by omega), List.take_succ_eq_append_getElem (by omega), List.map_append, List.sum_append]
    have : mget ms k = ms[k] := by unfold mget; rw [List.getD_eq_getElem?_getD, List.getElem?_eq_getElem (by omega)]; rfl
    rw [this]
    simp only [List.map_cons, List.map_nil, List.sum_cons, List.sum_nil, cOf]
    omega
/-- (w, j) goes ahead of (v, i) just if j is at most c. -/
theorem cOf_iff (T : Nat → Int) (v w : Nat) (i j : Int) (hv : 0 < T v) : j ≤ cOf T v i w ↔ Prec T w j v i := by
  unfold cOf Prec
  have d1 := Int.emod_add_mul_ediv (T w * i) (T v)
  have d2 := Int.emod_nonneg (T w * i) (Int.ne_of_gt hv)
  have d3 := Int.emod_lt_of_pos (T w * i) hv
  have l1 : ∀ q : Int, q ≤ (T w * i - 1) / T v ↔ q * T v ≤ T w * i - 1 := fun q => Int.le_ediv_iff_mul_le hv
  have hc : T v * j = j * T v := Int.mul_comm _ _
  by_cases c : w < v ∧ T w * i % T v = 0
  · rw [if_pos c]
    have e := l1 (j - 1)
    have e2 : (j - 1) * T v = j * T v - T v := by rw [Int.sub_mul]; omega
    have e3 : T w * i = T v * (T w * i / T v) := by omega
    constructor
    · intro h
      have : (j - 1) * T v ≤ T w * i - 1 := e.1 (by omega)
      have h5 : j * T v - T v < T w * i := by omega
      generalize T w * i / T v = Q at e3
      have h6 : j * T v < (Q + 1) * T v := by rw [Int.add_mul]; rw [Int.mul_comm Q]; omega
      have h7 := Int.lt_of_mul_lt_mul_right h6 (Int.le_of_lt hv)
      have h8 : j * T v ≤ Q * T v := Int.mul_le_mul_of_nonneg_right (by omega) (Int.le_of_lt hv)
      rw [Int.mul_comm Q] at h8
      omega
    · intro h
      have : (j - 1) * T v ≤ T w * i - 1 := by omega
      have := e.2 this
      omega
  · rw [if_neg c]
    have e := l1 j
    rw [Int.add_zero]
    constructor
    · intro h; have := e.1 h; left; omega
    · intro h
      refine e.2 ?_
      rcases h with h | ⟨h, h'⟩
      · omega
      · exfalso
        apply c
        refine ⟨h', ?_⟩
        rw [h, Int.mul_emod_right]
end Go.Proofs.Ytnconbpneimjiaa

/-
  P4, plain: the two tables are one.
-/
namespace Go.Proofs.Ytnconbpneimjiaa
open Go.PlainAid

theorem sumN_sub (f g : Nat → Int) (n : Nat) : sumN (fun i => f i - g i) n = sumN f n - sumN g n := by
  induction n with
  | zero => rfl
  | succ n ih => rw [sumN, sumN, sumN, ih]; omega

structure Tab (T : Nat → Int) : Prop where
  nonneg : ∀ v, 0 ≤ T v
  some : ∃ v, v < 256 ∧ 0 < T v

/-- How many rounds of filling there are. -/
def fillN (T : Nat → Int) : Nat := (64 - admN T 32).toNat
/-- The shares in the end. -/
def endSh (T : Nat → Int) : Nat → Int := fillTo T (admTo T 32) (fillN T)


theorem Tab.first {T : Nat → Int} (h : Tab T) : ∃ v, v < 256 ∧ admTo T 32 v = 1 := by
  have A := adm T h.nonneg 32
  obtain ⟨v, hv, hp⟩ := h.some
  rcases A.full with f | f
  · apply Decidable.byContradiction
    intro hn
    have : sumN (admTo T 32) 256 = 0 := by
      rw [← sumN_zero 256]
      refine sumN_congr 256 fun w hw => ?_
      rcases A.bit w with q | q
      · exact q
      · exact absurd ⟨w, hw, q⟩ hn
    have := A.sum
    omega
  · exact ⟨v, hv, f v hv hp⟩
theorem Tab.fil {T : Nat → Int} (h : Tab T) (n : Nat) : Fil T (admTo T 32) (admN T 32) n ∧ (nd T (fillTo T (admTo T 32) n)).2 = true := by
  have A := adm T h.nonneg 32
  obtain ⟨v, _, hv⟩ := h.first
  exact Proofs.Ytnconbpneimjiaa.fil T (admTo T 32) (admN T 32) A.pos A.bit A.out A.sum.symm v hv n
theorem Tab.bd {T : Nat → Int} (h : Tab T) (n : Nat) (hn : n ≤ fillN T) (v : Nat) : 0 ≤ fillTo T (admTo T 32) n v ∧ fillTo T (admTo T 32) n v ≤ 64 := by
  have A := adm T h.nonneg 32
  have F := (h.fil n).1
  have hle := A.le
  have h0 : ∀ w, 0 ≤ fillTo T (admTo T 32) n w := fun w => by
    rcases A.bit w with q | q
    · rw [F.zero w q]; omega
    · have := F.one w q; omega
  refine ⟨h0 v, ?_⟩
  unfold fillN at hn
  rcases Nat.lt_or_ge v 256 with c | c
  · have := sumN_ge 256 v c (fun w _ => h0 w)
    rw [F.sum] at this
    have := admN_bd T 32
    omega
  · rw [F.zero v (A.out v c)]; omega
theorem Tab.rank_sum {T : Nat → Int} (v : Nat) (i : Int) : rnk T (memTo T 256) v i = sumN (fun w => if memB T w then cOf T v i w else 0) 256 := by
  unfold rnk
  rw [rankTo_take _ _ _ _ _ (Nat.le_refl _), List.take_length, sum_mem]
theorem Tab.rank_lt {T : Nat → Int} (h : Tab T) (v : Nat) (hv : v < 256) (hA : admTo T 32 v = 1) (i : Int) (hi : 1 ≤ i) : rnk T (memTo T 256) v i < 64 - admN T 32 ↔ i < endSh T v := by
  have A := adm T h.nonneg 32
  have hle := A.le
  have F := (h.fil (fillN T)).1
  have hbd := admN_bd T 32
  have hTv := A.pos v hA
  have hN : sumN (fun w => endSh T w - admTo T 32 w) 256 = 64 - admN T 32 := by
    rw [sumN_sub, ← A.sum]
    have := F.sum
    unfold endSh
    rw [this]; unfold fillN; omega
  rw [Tab.rank_sum]
  constructor
  · intro hlt
    apply Decidable.byContradiction
    intro hc
    have : sumN (fun w => endSh T w - admTo T 32 w) 256 ≤ sumN (fun w => if memB T w then cOf T v i w else 0) 256 := by
      refine sumN_le 256 fun w hw => ?_
      by_cases c : memB T w = true
      · simp only [if_pos c]
        have hAw := (mem_iff T h.nonneg w hw).1 c
        have hTw := A.pos w hAw
        rw [hAw]
        by_cases cj : endSh T w - 1 = 0
        · rw [cj]
          have q0 : 1 * 1 ≤ T w * i := Int.mul_le_mul (by omega) hi (by omega) (by omega)
          have : 0 ≤ (T w * i - 1) / T v := Int.ediv_nonneg (by omega) (by omega)
          unfold cOf; split <;> omega
        · rw [cOf_iff T v w i _ hTv]
          have hone := F.one w hAw
          change 1 ≤ endSh T w at hone
          apply Classical.byContradiction
          intro hn
          have hn' : Prec T v i w (endSh T w - 1) := by
            unfold Prec at hn ⊢
            by_cases e1 : T w * i < T v * (endSh T w - 1)
            · exact .inl e1
            · right
              have e2 : T w * i = T v * (endSh T w - 1) := by
                apply Int.le_antisymm
                · apply Decidable.byContradiction; intro g; exact hn (.inl (by omega))
                · omega
              refine ⟨e2.symm, ?_⟩
              rcases Nat.lt_trichotomy w v with g | g | g
              · exact absurd (.inr ⟨e2, g⟩) hn
              · subst g
                have := Int.eq_of_mul_eq_mul_left (Int.ne_of_gt hTw) e2
                omega
              · exact g
          have := F.down w v (endSh T w - 1) i hAw hA (by omega) (by show endSh T w - 1 < endSh T w; omega) hi hn'
          exact hc this
      · simp only [if_neg c]
        have hAw : admTo T 32 w = 0 := by
          rcases A.bit w with q | q
          · exact q
          · exact absurd ((mem_iff T h.nonneg w hw).2 q) c
        rw [hAw]
        have := F.zero w hAw
        change endSh T w = 0 at this
        omega
    omega
  · intro hlt
    rw [← hN]
    refine sumN_lt 256 v hv (fun w hw => ?_) ?_
    · by_cases c : memB T w = true
      · simp only [if_pos c]
        have hAw := (mem_iff T h.nonneg w hw).1 c
        have hone := F.one w hAw
        change 1 ≤ endSh T w at hone
        rw [hAw]
        by_cases c1 : 1 ≤ cOf T v i w
        · have hp := (cOf_iff T v w i (cOf T v i w) hTv).1 (Int.le_refl _)
          have : cOf T v i w < endSh T w := F.down v w i _ hA hAw hi hlt c1 hp
          omega
        · omega
      · simp only [if_neg c]
        have hAw : admTo T 32 w = 0 := by
          rcases A.bit w with q | q
          · exact q
          · exact absurd ((mem_iff T h.nonneg w hw).2 q) c
        rw [hAw]
        have := F.zero w hAw
        change endSh T w = 0 at this
        omega
    · have c := (mem_iff T h.nonneg v hv).2 hA
      simp only [if_pos c]
      rw [hA]
      have hp := (cOf_iff T v v i (cOf T v i v) hTv).1 (Int.le_refl _)
      rcases hp with hp | hp
      · have := Int.lt_of_mul_lt_mul_left hp (Int.le_of_lt hTv)
        omega
      · omega
theorem Tab.share {T : Nat → Int} (h : Tab T) (v : Nat) (hv : v < 256) (hA : admTo T 32 v = 1) : shTo T (memTo T 256) v 63 = endSh T v := by
  have hone := (h.fil (fillN T)).1.one v hA
  have hbd := h.bd (fillN T) (Nat.le_refl _) v
  change 1 ≤ endSh T v at hone
  change 0 ≤ endSh T v ∧ endSh T v ≤ 64 at hbd
  have key : ∀ j : Nat, shTo T (memTo T 256) v j = if (j : Int) + 1 ≤ endSh T v then (j : Int) + 1 else endSh T v := by
    intro j
    induction j with
    | zero => rw [shTo, if_pos (by omega)]; rfl
    | succ j ih =>
      rw [shTo, ih, len_mem T h.nonneg]
      have := h.rank_lt v hv hA ((j : Int) + 1) (by omega)
      by_cases c : (j : Int) + 1 < endSh T v
      · rw [if_pos (this.2 c), if_pos (by omega), if_pos (by omega)]; omega
      · rw [if_neg (fun q => c (this.1 q))]
        by_cases d : (j : Int) + 1 ≤ endSh T v
        · rw [if_pos d, if_neg (by omega)]; omega
        · rw [if_neg d, if_neg (by omega)]; omega
  rw [key]
  by_cases c : ((63 : Nat) : Int) + 1 ≤ endSh T v
  · rw [if_pos c]; omega
  · rw [if_neg c]

theorem outTo_mem (T S : Nat → Int) (k : Nat) (h : ∀ v, v < k → (0 < S v ↔ memB T v = true)) : outTo S k = (memTo T k).flatMap (fun v : Nat => [(v : Int), S v]) := by
  induction k with
  | zero => rfl
  | succ k ih =>
    rw [outTo, memTo, ih (fun v hv => h v (by omega)), List.flatMap_append]
    have := h k (by omega)
    by_cases c : memB T k = true
    · rw [if_pos (this.2 c), if_pos c]; simp
    · rw [if_neg (fun q => c (this.1 q)), if_neg c]; simp
theorem refOut_take (l : Nat → Int) (ms : List Nat) (k : Nat) (hk : k ≤ ms.length) : refOut l ms k = (ms.take k).flatMap (fun v : Nat => [(v : Int), shTo l ms v 63]) := by
  induction k with
  | zero => simp [refOut]
  | succ k ih =>
    rw [refOut, ih (by omega), List.take_succ_eq_append_getElem (by omega), List.flatMap_append]
    have : mget ms k = ms[k] := by unfold mget; rw [List.getD_eq_getElem?_getD, List.getElem?_eq_getElem (by omega)]; rfl
    rw [this]; simp
theorem flatMap_same {α β : Type} (l : List α) (f g : α → List β) (h : ∀ a, a ∈ l → f a = g a) : l.flatMap f = l.flatMap g := by
  induction l with
  | nil => rfl
  | cons a l ih => rw [List.flatMap_cons, List.flatMap_cons, h a (by simp), ih (fun b hb => h b (by simp [hb]))]
theorem tables_one {T : Nat → Int} (h : Tab T) : outTo (endSh T) 256 = refOut T (memTo T 256) (memTo T 256).length := by
  have A := adm T h.nonneg 32
  have F := (h.fil (fillN T)).1
  rw [refOut_take _ _ _ (Nat.le_refl _), List.take_length, outTo_mem T (endSh T) 256 (fun v hv => ?_)]
  · refine flatMap_same _ _ _ fun v hv => ?_
    obtain ⟨h1, h2⟩ := (mem_memTo T 256 v).1 hv
    rw [h.share v h1 ((mem_iff T h.nonneg v h1).1 h2)]
  · rw [mem_iff T h.nonneg v hv]
    constructor
    · intro hp
      rcases A.bit v with q | q
      · have := F.zero v q
        change endSh T v = 0 at this
        omega
      · exact q
    · intro q
      have := F.one v q
      change 1 ≤ endSh T v at this
      omega

/-! ### The times of a text -/
theorem cntTo_mono (s : ByteArray) (v j k : Nat) (h : j ≤ k) : cntTo s j v ≤ cntTo s k v := by
  induction k with
  | zero => obtain rfl : j = 0 := by omega
            exact Int.le_refl _
  | succ k ih =>
    rcases Nat.lt_or_ge k j with c | c
    · obtain rfl : j = k + 1 := by omega
      exact Int.le_refl _
    · have := ih c; rw [cntTo]; split <;> omega
theorem tab_of (s : ByteArray) (h0 : 0 < s.size) : Tab (cntTo s s.size) := by
  refine ⟨fun v => (cntTo_bd s s.size v).1, (bt s 0).toNat, ?_, ?_⟩
  · have := bt_le s 0; omega
  · have h1 := cntTo_mono s (bt s 0).toNat 1 s.size (by omega)
    have h2 : cntTo s 1 (bt s 0).toNat = 1 := by
      have := bt_nonneg s 0
      simp only [cntTo]; rw [if_pos (by omega)]; rfl
    omega
theorem mem_facts (s : ByteArray) (h1 : s.size ≤ 800) : ∀ j, j < (memTo (cntTo s s.size) 256).length → mget (memTo (cntTo s s.size) 256) j < 256 ∧ 1 ≤ cntTo s s.size (mget (memTo (cntTo s s.size) 256) j) ∧ cntTo s s.size (mget (memTo (cntTo s s.size) 256) j) ≤ 800 := by
  intro j hj
  obtain ⟨a, b⟩ := (mem_memTo _ 256 _).1 (mget_mem hj)
  have c := cntTo_bd s s.size (mget (memTo (cntTo s s.size) 256) j)
  simp only [memB, decide_eq_true_eq] at b
  omega
theorem mem_pos (s : ByteArray) (h0 : 0 < s.size) : 0 < (memTo (cntTo s s.size) 256).length := by
  have h := tab_of s h0
  obtain ⟨v, hv, hA⟩ := h.first
  have : v ∈ memTo (cntTo s s.size) 256 := (mem_memTo _ _ _).2 ⟨hv, (mem_iff _ h.nonneg v hv).2 hA⟩
  exact List.length_pos_of_mem this
end Go.Proofs.Ytnconbpneimjiaa

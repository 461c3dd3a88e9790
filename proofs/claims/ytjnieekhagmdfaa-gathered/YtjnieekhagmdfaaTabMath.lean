/-
  P4, plain: giving one slot after the other to the greatest quotient is ranking all quotients.
-/
import Derived.Test.YtjnieekhagmdfaaTabRefDefs
namespace Go.Proofs.Ytjnieekhagmdfaa

/-! ### Sums over 0 .. n - 1 -/
def sumN (f : Nat → Int) : Nat → Int
  | 0 => 0
  | n + 1 => sumN f n + f n
theorem sumN_congr {f g : Nat → Int} (n : Nat) (h : ∀ i, i < n → f i = g i) : sumN f n = sumN g n := by
  induction n with
  | zero => rfl
  | succ n ih => rw [sumN, sumN, ih (fun i hi => h i (by omega)), h n (by omega)]
theorem sumN_le {f g : Nat → Int} (n : Nat) (h : ∀ i, i < n → f i ≤ g i) : sumN f n ≤ sumN g n := by
  induction n with
  | zero => simp [sumN]
  | succ n ih =>
    have h1 := ih (fun i hi => h i (by omega))
    have h2 := h n (by omega)
    rw [sumN, sumN]; omega
theorem sumN_lt {f g : Nat → Int} (n a : Nat) (ha : a < n) (h : ∀ i, i < n → f i ≤ g i) (hs : f a < g a) : sumN f n < sumN g n := by
  induction n with
  | zero => omega
  | succ n ih =>
    rw [sumN, sumN]
    have h2 := h n (by omega)
    rcases Nat.lt_or_ge a n with c | c
    · have h1 := ih c (fun i hi => h i (by omega)); omega
    · obtain rfl : a = n := by omega
      have h1 := sumN_le a (fun i hi => h i (by omega)); omega
theorem sumN_upd (f : Nat → Int) (n b : Nat) (x : Int) : sumN (upd f b x) n = sumN f n + if b < n then x - f b else 0 := by
  induction n with
  | zero => simp [sumN]
  | succ n ih =>
    rw [sumN, sumN, ih]
    by_cases c : b < n
    · rw [if_pos c, if_pos (by omega)]; unfold upd; rw [if_neg (by omega)]; omega
    · rw [if_neg c]
      by_cases d : b = n
      · subst d; rw [if_pos (by omega)]; unfold upd; rw [if_pos rfl]; omega
      · rw [if_neg (by omega)]; unfold upd; rw [if_neg (by omega)]; omega
theorem sumN_zero (n : Nat) : sumN (fun _ => 0) n = 0 := by
  induction n with
  | zero => rfl
  | succ n ih => rw [sumN, ih]; rfl
theorem sumN_ge {f : Nat → Int} (n a : Nat) (ha : a < n) (h : ∀ i, i < n → 0 ≤ f i) : f a ≤ sumN f n := by
  have h1 := sumN_le (f := upd (fun _ => 0) a (f a)) (g := f) n (fun i hi => by
    unfold upd
    by_cases c : i = a
    · subst c; simp
    · rw [if_neg c]; exact h i hi)
  rw [sumN_upd, sumN_zero, if_pos ha] at h1
  omega

/-! ### The most frequent -/
theorem mfTo_spec (T sh : Nat → Int) (hT : ∀ v, 0 ≤ T v) (k : Nat) :
    0 ≤ (mfTo T sh k).2 ∧ (0 < (mfTo T sh k).2 → (mfTo T sh k).1 < k ∧ sh (mfTo T sh k).1 = 0 ∧ T (mfTo T sh k).1 = (mfTo T sh k).2) ∧
      ∀ w, w < k → sh w = 0 → T w ≤ (mfTo T sh k).2 ∧ (T w = (mfTo T sh k).2 → 0 < (mfTo T sh k).2 → (mfTo T sh k).1 ≤ w) := by
  induction k with
  | zero => simp [mfTo]
  | succ k ih =>
    obtain ⟨i1, i2, i3⟩ := ih
    rw [mfTo]
    generalize mfTo T sh k = r at *
    obtain ⟨b, m⟩ := r
    simp only at i1 i2 i3 ⊢
    by_cases c : sh k = 0 ∧ m < T k
    · rw [if_pos c]
      simp only
      refine ⟨hT k, fun _ => ⟨by omega, c.1, trivial⟩, fun w hw hz => ?_⟩
      rcases Nat.lt_or_ge w k with d | d
      · have := (i3 w d hz).1
        exact ⟨by omega, fun e _ => by omega⟩
      · obtain rfl : w = k := by omega
        exact ⟨Int.le_refl _, fun _ _ => Nat.le_refl _⟩
    · rw [if_neg c]
      simp only
      refine ⟨i1, fun h => ⟨by have := (i2 h).1; omega, (i2 h).2⟩, fun w hw hz => ?_⟩
      rcases Nat.lt_or_ge w k with d | d
      · exact i3 w d hz
      · obtain rfl : w = k := by omega
        have : T w ≤ m := by
          by_cases e : m < T w
          · exact absurd ⟨hz, e⟩ c
          · omega
        exact ⟨this, fun e h => by have := (i2 h).1; omega⟩

/-- w goes ahead of v. -/
def Ahead (T : Nat → Int) (w v : Nat) : Prop := T v < T w ∨ (T w = T v ∧ w < v)

structure Adm (T : Nat → Int) (n : Nat) : Prop where
  bit : ∀ v, admTo T n v = 0 ∨ admTo T n v = 1
  out : ∀ v, 256 ≤ v → admTo T n v = 0
  pos : ∀ v, admTo T n v = 1 → 0 < T v
  down : ∀ v w, w < 256 → admTo T n v = 1 → Ahead T w v → admTo T n w = 1
  sum : admN T n = sumN (admTo T n) 256
  le : admN T n ≤ n
  full : admN T n = n ∨ ∀ w, w < 256 → 0 < T w → admTo T n w = 1

theorem adm (T : Nat → Int) (hT : ∀ v, 0 ≤ T v) (n : Nat) : Adm T n := by
  induction n with
  | zero => exact ⟨fun _ => .inl rfl, fun _ _ => rfl, fun v h => by simp [admTo] at h, fun v w _ h _ => by simp [admTo] at h, by rw [admN]; exact (sumN_zero 256).symm, by simp [admN], .inl rfl⟩
  | succ n ih =>
    have sp := mfTo_spec T (admTo T n) hT 256
    have hb := mf_lt T (admTo T n)
    by_cases hf : 0 < (mf T (admTo T n)).2
    · have e1 := admTo_hit T n hf
      have e2 := admN_hit T n hf
      change 0 < (mf T (admTo T n)).2 at hf
      obtain ⟨_, s2, s3⟩ := sp
      change 0 < (mf T (admTo T n)).2 → (mf T (admTo T n)).1 < 256 ∧ admTo T n (mf T (admTo T n)).1 = 0 ∧ T (mf T (admTo T n)).1 = (mf T (admTo T n)).2 at s2
      change ∀ w, w < 256 → admTo T n w = 0 → T w ≤ (mf T (admTo T n)).2 ∧ (T w = (mf T (admTo T n)).2 → 0 < (mf T (admTo T n)).2 → (mf T (admTo T n)).1 ≤ w) at s3
      generalize mf T (admTo T n) = r at *
      obtain ⟨b, m⟩ := r
      simp only at hf hb s2 s3 e1 e2
      obtain ⟨_, z, tb⟩ := s2 hf
      refine ⟨fun v => ?_, fun v hv => ?_, fun v h => ?_, fun v w hw h ha => ?_, ?_, ?_, ?_⟩
      · rw [e1]; unfold upd; split
        · exact .inr rfl
        · exact ih.bit v
      · rw [e1]; unfold upd; rw [if_neg (by omega)]; exact ih.out v hv
      · rw [e1] at h; unfold upd at h
        by_cases c : v = b
        · subst c; omega
        · rw [if_neg c] at h; exact ih.pos v h
      · rw [e1] at h ⊢; unfold upd at h ⊢
        by_cases d : w = b
        · rw [if_pos d]
        · rw [if_neg d]
          by_cases c : v = b
          · subst c
            rcases ih.bit w with q | q
            · have := s3 w hw q
              rcases ha with ha | ⟨ha, hl⟩
              · omega
              · have := this.2 (by omega) hf; omega
            · exact q
          · rw [if_neg c] at h
            exact ih.down v w hw h ha
      · rw [e1, e2, sumN_upd, if_pos hb, z, ih.sum]; omega
      · have := ih.le; rw [e2]; omega
      · rcases ih.full with q | q
        · left; rw [e2, q]; omega
        · have := q b hb (by omega); omega
    · have e1 : admTo T (n + 1) = admTo T n := by rw [admTo, if_neg hf]
      have e2 : admN T (n + 1) = admN T n := by rw [admN, if_neg hf]
      refine ⟨?_, ?_, ?_, ?_, ?_, ?_, ?_⟩
      · rw [e1]; exact ih.bit
      · rw [e1]; exact ih.out
      · rw [e1]; exact ih.pos
      · rw [e1]; exact ih.down
      · rw [e1, e2]; exact ih.sum
      · have := ih.le; rw [e2]; omega
      · right
        intro w hw hp
        rw [e1]
        rcases ih.bit w with q | q
        · have := (sp.2.2 w hw q).1
          change T w ≤ (mf T (admTo T n)).2 at this
          omega
        · exact q

/-! ### The members -/
theorem ahead_sum (T : Nat → Int) (v k : Nat) : aheadTo T v k = sumN (fun w => if T v < T w ∨ (T w = T v ∧ w < v) then 1 else 0) k := by
  induction k with
  | zero => rfl
  | succ k ih => rw [aheadTo, sumN, ih]
theorem mem_iff (T : Nat → Int) (hT : ∀ v, 0 ≤ T v) (v : Nat) (hv : v < 256) : memB T v = true ↔ admTo T 32 v = 1 := by
  have A := adm T hT 32
  have hle := A.le
  constructor
  · intro h
    simp only [memB, decide_eq_true_eq] at h
    rcases A.bit v with q | q
    · exfalso
      have hp : 0 < T v := by have := hT v; omega
      rcases A.full with f | f
      · have : sumN (admTo T 32) 256 ≤ aheadTo T v 256 := by
          rw [ahead_sum]
          refine sumN_le 256 fun w hw => ?_
          rcases A.bit w with r | r
          · rw [r]; split <;> omega
          · rw [r, if_pos]; omega
            apply Decidable.byContradiction
            intro hn
            have hne : w ≠ v := by rintro rfl; omega
            have : admTo T 32 v = 1 := A.down w v hv r (by unfold Ahead; omega)
            omega
        have := A.sum
        omega
      · have := f v hv hp; omega
    · exact q
  · intro h
    have hp := A.pos v h
    simp only [memB, decide_eq_true_eq]
    refine ⟨by omega, ?_⟩
    have : aheadTo T v 256 < sumN (admTo T 32) 256 := by
      rw [ahead_sum]
      refine sumN_lt 256 v hv (fun w hw => ?_) ?_
      · split
        · rename_i c
          rw [A.down v w hw h c]; omega
        · rcases A.bit w with r | r <;> omega
      · rw [if_neg (by omega), h]; omega
    have := A.sum
    omega
theorem mem_memTo (T : Nat → Int) (k x : Nat) : x ∈ memTo T k ↔ x < k ∧ memB T x = true := by
  induction k with
  | zero => simp [memTo]
  | succ k ih =>
    rw [memTo, List.mem_append, ih]
    by_cases c : memB T k = true
    · rw [if_pos c]
      simp only [List.mem_singleton]
      constructor
      · rintro (h | rfl)
        · exact ⟨by omega, h.2⟩
        · exact ⟨by omega, c⟩
      · rintro ⟨h1, h2⟩
        rcases Nat.lt_or_ge x k with d | d
        · exact .inl ⟨d, h2⟩
        · right; omega
    · rw [if_neg c]
      simp only [List.not_mem_nil, or_false]
      constructor
      · rintro ⟨h1, h2⟩; exact ⟨by omega, h2⟩
      · rintro ⟨h1, h2⟩
        refine ⟨?_, h2⟩
        rcases Nat.lt_or_ge x k with d | d
        · exact d
        · obtain rfl : x = k := by omega
          exact absurd h2 c
theorem mget_mem {ms : List Nat} {j : Nat} (h : j < ms.length) : mget ms j ∈ ms := by
  unfold mget; rw [List.getD_eq_getElem?_getD, List.getElem?_eq_getElem h]; exact List.getElem_mem h
/-- A sum over the members, as a sum over all values. -/
theorem sum_mem (T c : Nat → Int) (k : Nat) : ((memTo T k).map c).sum = sumN (fun w => if memB T w then c w else 0) k := by
  induction k with
  | zero => rfl
  | succ k ih =>
    rw [memTo, List.map_append, List.sum_append, ih, sumN]
    split <;> simp
theorem len_mem (T : Nat → Int) (hT : ∀ v, 0 ≤ T v) : ((memTo T 256).length : Int) = admN T 32 := by
  have e : ∀ l : List Nat, ((l.map fun _ => (1 : Int)).sum) = (l.length : Int) := by
    intro l
    induction l with
    | nil => rfl
    | cons a l ih => rw [List.map_cons, List.sum_cons, ih, List.length_cons]; omega
  rw [← e, sum_mem, (adm T hT 32).sum]
  refine sumN_congr 256 fun w hw => ?_
  by_cases c : memB T w = true
  · rw [if_pos c, (mem_iff T hT w hw).1 c]
  · rw [if_neg c]
    rcases (adm T hT 32).bit w with q | q
    · exact q.symm
    · exact absurd ((mem_iff T hT w hw).2 q) c
end Go.Proofs.Ytjnieekhagmdfaa

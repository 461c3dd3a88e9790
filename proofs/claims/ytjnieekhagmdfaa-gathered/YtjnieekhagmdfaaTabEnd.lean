/-
  P4, plain: the two tables are one.
-/
import Derived.Test.YtjnieekhagmdfaaTabGreed
namespace Go.Proofs.Ytjnieekhagmdfaa
open Go.PlainAid

theorem sumN_sub (f g : Nat → Int) (n : Nat) : sumN (fun i => f i - g i) n = sumN f n - sumN g n := by
  induction n with
  | zero => rfl
  | succ n ih => rw [sumN, sumN, sumN, ih]; omega

structure Tab (T : Nat → Int) : Prop where
  nonneg : ∀ v, 0 ≤ T v
  some : ∃ v, v < 256 ∧ 0 < T v

/-- How many rounds of filling there are. -/
def fillN (T : Nat → Int) : Nat := (64 - admN T 32).toNat
/-- The shares in the end. -/
def endSh (T : Nat → Int) : Nat → Int := fillTo T (admTo T 32) (fillN T)


theorem Tab.first {T : Nat → Int} (h : Tab T) : ∃ v, v < 256 ∧ admTo T 32 v = 1 := by
  have A := adm T h.nonneg 32
  obtain ⟨v, hv, hp⟩ := h.some
  rcases A.full with f | f
  · apply Decidable.byContradiction
    intro hn
    have : sumN (admTo T 32) 256 = 0 := by
      rw [← sumN_zero 256]
      refine sumN_congr 256 fun w hw => ?_
      rcases A.bit w with q | q
      · exact q
      · exact absurd ⟨w, hw, q⟩ hn
    have := A.sum
    omega
  · exact ⟨v, hv, f v hv hp⟩
theorem Tab.fil {T : Nat → Int} (h : Tab T) (n : Nat) : Fil T (admTo T 32) (admN T 32) n ∧ (nd T (fillTo T (admTo T 32) n)).2 = true := by
  have A := adm T h.nonneg 32
  obtain ⟨v, _, hv⟩ := h.first
  exact Proofs.Ytjnieekhagmdfaa.fil T (admTo T 32) (admN T 32) A.pos A.bit A.out A.sum.symm v hv n
theorem Tab.bd {T : Nat → Int} (h : Tab T) (n : Nat) (hn : n ≤ fillN T) (v : Nat) : 0 ≤ fillTo T (admTo T 32) n v ∧ fillTo T (admTo T 32) n v ≤ 64 := by
  have A := adm T h.nonneg 32
  have F := (h.fil n).1
  have hle := A.le
  have h0 : ∀ w, 0 ≤ fillTo T (admTo T 32) n w := fun w => by
    rcases A.bit w with q | q
    · rw [F.zero w q]; omega
    · have := F.one w q; omega
  refine ⟨h0 v, ?_⟩
  unfold fillN at hn
  rcases Nat.lt_or_ge v 256 with c | c
  · have := sumN_ge 256 v c (fun w _ => h0 w)
    rw [F.sum] at this
    have := admN_bd T 32
    omega
  · rw [F.zero v (A.out v c)]; omega
theorem Tab.rank_sum {T : Nat → Int} (v : Nat) (i : Int) : rnk T (memTo T 256) v i = sumN (fun w => if memB T w then cOf T v i w else 0) 256 := by
  unfold rnk
  rw [rankTo_take _ _ _ _ _ (Nat.le_refl _), List.take_length, sum_mem]
theorem Tab.rank_lt {T : Nat → Int} (h : Tab T) (v : Nat) (hv : v < 256) (hA : admTo T 32 v = 1) (i : Int) (hi : 1 ≤ i) : rnk T (memTo T 256) v i < 64 - admN T 32 ↔ i < endSh T v := by
  have A := adm T h.nonneg 32
  have hle := A.le
  have F := (h.fil (fillN T)).1
  have hbd := admN_bd T 32
  have hTv := A.pos v hA
  have hN : sumN (fun w => endSh T w - admTo T 32 w) 256 = 64 - admN T 32 := by
    rw [sumN_sub, ← A.sum]
    have := F.sum
    unfold endSh
    rw [this]; unfold fillN; omega
  rw [Tab.rank_sum]
  constructor
  · intro hlt
    apply Decidable.byContradiction
    intro hc
    have : sumN (fun w => endSh T w - admTo T 32 w) 256 ≤ sumN (fun w => if memB T w then cOf T v i w else 0) 256 := by
      refine sumN_le 256 fun w hw => ?_
      by_cases c : memB T w = true
      · simp only [if_pos c]
        have hAw := (mem_iff T h.nonneg w hw).1 c
        have hTw := A.pos w hAw
        rw [hAw]
        by_cases cj : endSh T w - 1 = 0
        · rw [cj]
          have q0 : 1 * 1 ≤ T w * i := Int.mul_le_mul (by omega) hi (by omega) (by omega)
          have : 0 ≤ (T w * i - 1) / T v := Int.ediv_nonneg (by omega) (by omega)
          unfold cOf; split <;> omega
        · rw [cOf_iff T v w i _ hTv]
          have hone := F.one w hAw
          change 1 ≤ endSh T w at hone
          apply Classical.byContradiction
          intro hn
          have hn' : Prec T v i w (endSh T w - 1) := by
            unfold Prec at hn ⊢
            by_cases e1 : T w * i < T v * (endSh T w - 1)
            · exact .inl e1
            · right
              have e2 : T w * i = T v * (endSh T w - 1) := by
                apply Int.le_antisymm
                · apply Decidable.byContradiction; intro g; exact hn (.inl (by omega))
                · omega
              refine ⟨e2.symm, ?_⟩
              rcases Nat.lt_trichotomy w v with g | g | g
              · exact absurd (.inr ⟨e2, g⟩) hn
              · subst g
                have := Int.eq_of_mul_eq_mul_left (Int.ne_of_gt hTw) e2
                omega
              · exact g
          have := F.down w v (endSh T w - 1) i hAw hA (by omega) (by show endSh T w - 1 < endSh T w; omega) hi hn'
          exact hc this
      · simp only [if_neg c]
        have hAw : admTo T 32 w = 0 := by
          rcases A.bit w with q | q
          · exact q
          · exact absurd ((mem_iff T h.nonneg w hw).2 q) c
        rw [hAw]
        have := F.zero w hAw
        change endSh T w = 0 at this
        omega
    omega
  · intro hlt
    rw [← hN]
    refine sumN_lt 256 v hv (fun w hw => ?_) ?_
    · by_cases c : memB T w = true
      · simp only [if_pos c]
        have hAw := (mem_iff T h.nonneg w hw).1 c
        have hone := F.one w hAw
        change 1 ≤ endSh T w at hone
        rw [hAw]
        by_cases c1 : 1 ≤ cOf T v i w
        · have hp := (cOf_iff T v w i (cOf T v i w) hTv).1 (Int.le_refl _)
          have : cOf T v i w < endSh T w := F.down v w i _ hA hAw hi hlt c1 hp
          omega
        · omega
      · simp only [if_neg c]
        have hAw : admTo T 32 w = 0 := by
          rcases A.bit w with q | q
          · exact q
          · exact absurd ((mem_iff T h.nonneg w hw).2 q) c
        rw [hAw]
        have := F.zero w hAw
        change endSh T w = 0 at this
        omega
    · have c := (mem_iff T h.nonneg v hv).2 hA
      simp only [if_pos c]
      rw [hA]
      have hp := (cOf_iff T v v i (cOf T v i v) hTv).1 (Int.le_refl _)
      rcases hp with hp | hp
      · have := Int.lt_of_mul_lt_mul_left hp (Int.le_of_lt hTv)
        omega
      · omega
theorem Tab.share {T : Nat → Int} (h : Tab T) (v : Nat) (hv : v < 256) (hA : admTo T 32 v = 1) : shTo T (memTo T 256) v 63 = endSh T v := by
  have hone := (h.fil (fillN T)).1.one v hA
  have hbd := h.bd (fillN T) (Nat.le_refl _) v
  change 1 ≤ endSh T v at hone
  change 0 ≤ endSh T v ∧ endSh T v ≤ 64 at hbd
  have key : ∀ j : Nat, shTo T (memTo T 256) v j = if (j : Int) + 1 ≤ endSh T v then (j : Int) + 1 else endSh T v := by
    intro j
    induction j with
    | zero => rw [shTo, if_pos (by omega)]; rfl
    | succ j ih =>
      rw [shTo, ih, len_mem T h.nonneg]
      have := h.rank_lt v hv hA ((j : Int) + 1) (by omega)
      by_cases c : (j : Int) + 1 < endSh T v
      · rw [if_pos (this.2 c), if_pos (by omega), if_pos (by omega)]; omega
      · rw [if_neg (fun q => c (this.1 q))]
        by_cases d : (j : Int) + 1 ≤ endSh T v
        · rw [if_pos d, if_neg (by omega)]; omega
        · rw [if_neg d, if_neg (by omega)]; omega
  rw [key]
  by_cases c : ((63 : Nat) : Int) + 1 ≤ endSh T v
  · rw [if_pos c]; omega
  · rw [if_neg c]

theorem outTo_mem (T S : Nat → Int) (k : Nat) (h : ∀ v, v < k → (0 < S v ↔ memB T v = true)) : outTo S k = (memTo T k).flatMap (fun v : Nat => [(v : Int), S v]) := by
  induction k with
  | zero => rfl
  | succ k ih =>
    rw [outTo, memTo, ih (fun v hv => h v (by omega)), List.flatMap_append]
    have := h k (by omega)
    by_cases c : memB T k = true
    · rw [if_pos (this.2 c), if_pos c]; simp
    · rw [if_neg (fun q => c (this.1 q)), if_neg c]; simp
theorem refOut_take (l : Nat → Int) (ms : List Nat) (k : Nat) (hk : k ≤ ms.length) : refOut l ms k = (ms.take k).flatMap (fun v : Nat => [(v : Int), shTo l ms v 63]) := by
  induction k with
  | zero => simp [refOut]
  | succ k ih =>
    rw [refOut, ih (by omega), List.take_succ_eq_append_getElem (by omega), List.flatMap_append]
    have : mget ms k = ms[k] := by unfold mget; rw [List.getD_eq_getElem?_getD, List.getElem?_eq_getElem (by omega)]; rfl
    rw [this]; simp
theorem flatMap_same {α β : Type} (l : List α) (f g : α → List β) (h : ∀ a, a ∈ l → f a = g a) : l.flatMap f = l.flatMap g := by
  induction l with
  | nil => rfl
  | cons a l ih => rw [List.flatMap_cons, List.flatMap_cons, h a (by simp), ih (fun b hb => h b (by simp [hb]))]
theorem tables_one {T : Nat → Int} (h : Tab T) : outTo (endSh T) 256 = refOut T (memTo T 256) (memTo T 256).length := by
  have A := adm T h.nonneg 32
  have F := (h.fil (fillN T)).1
  rw [refOut_take _ _ _ (Nat.le_refl _), List.take_length, outTo_mem T (endSh T) 256 (fun v hv => ?_)]
  · refine flatMap_same _ _ _ fun v hv => ?_
    obtain ⟨h1, h2⟩ := (mem_memTo T 256 v).1 hv
    rw [h.share v h1 ((mem_iff T h.nonneg v h1).1 h2)]
  · rw [mem_iff T h.nonneg v hv]
    constructor
    · intro hp
      rcases A.bit v with q | q
      · have := F.zero v q
        change endSh T v = 0 at this
        omega
      · exact q
    · intro q
      have := F.one v q
      change 1 ≤ endSh T v at this
      omega

/-! ### The times of a text -/
theorem cntTo_mono (s : ByteArray) (v j k : Nat) (h : j ≤ k) : cntTo s j v ≤ cntTo s k v := by
  induction k with
  | zero => obtain rfl : j = 0 := by omega
            exact Int.le_refl _
  | succ k ih =>
    rcases Nat.lt_or_ge k j with c | c
    · obtain rfl : j = k + 1 := by omega
      exact Int.le_refl _
    · have := ih c; rw [cntTo]; split <;> omega
theorem tab_of (s : ByteArray) (h0 : 0 < s.size) : Tab (cntTo s s.size) := by
  refine ⟨fun v => (cntTo_bd s s.size v).1, (bt s 0).toNat, ?_, ?_⟩
  · have := bt_le s 0; omega
  · have h1 := cntTo_mono s (bt s 0).toNat 1 s.size (by omega)
    have h2 : cntTo s 1 (bt s 0).toNat = 1 := by
      have := bt_nonneg s 0
      simp only [cntTo]; rw [if_pos (by omega)]; rfl
    omega
theorem mem_facts (s : ByteArray) (h1 : s.size ≤ 800) : ∀ j, j < (memTo (cntTo s s.size) 256).length → mget (memTo (cntTo s s.size) 256) j < 256 ∧ 1 ≤ cntTo s s.size (mget (memTo (cntTo s s.size) 256) j) ∧ cntTo s s.size (mget (memTo (cntTo s s.size) 256) j) ≤ 800 := by
  intro j hj
  obtain ⟨a, b⟩ := (mem_memTo _ 256 _).1 (mget_mem hj)
  have c := cntTo_bd s s.size (mget (memTo (cntTo s s.size) 256) j)
  simp only [memB, decide_eq_true_eq] at b
  omega
theorem mem_pos (s : ByteArray) (h0 : 0 < s.size) : 0 < (memTo (cntTo s s.size) 256).length := by
  have h := tab_of s h0
  obtain ⟨v, hv, hA⟩ := h.first
  have : v ∈ memTo (cntTo s s.size) 256 := (mem_memTo _ _ _).2 ⟨hv, (mem_iff _ h.nonneg v hv).2 hA⟩
  exact List.length_pos_of_mem this
end Go.Proofs.Ytjnieekhagmdfaa

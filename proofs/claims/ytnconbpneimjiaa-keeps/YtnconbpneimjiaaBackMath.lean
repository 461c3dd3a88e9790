/-
  P4 to P6, plain: what is learned is a table.
  P4 to P6, plain: what is learned is a table.
-/
import Derived.Test.YtnconbpneimjiaaPlainT
import Derived.Test.YtnconbpneimjiaaPlain
import Derived.Test.YtnconbpneimjiaaUnsWalk
namespace Go.Proofs.Ytnconbpneimjiaa
open Go.PlainAid

/-! ### P4 to P6, plain: what is learned is a table. -/
theorem flat_len (l : List Nat) (f : Nat → Int) : (l.flatMap (fun v : Nat => [(v : Int), f v])).length = 2 * l.length := by
  induction l with
  | nil => rfl
  | cons a l ih => rw [List.flatMap_cons, List.length_append, ih]; simp; omega
theorem flat_val (l : List Nat) (f : Nat → Int) (k : Nat) (hk : k < l.length) : (l.flatMap (fun v : Nat => [(v : Int), f v])).getD (2 * k) 0 = (mget l k : Int) ∧ (l.flatMap (fun v : Nat => [(v : Int), f v])).getD (2 * k + 1) 0 = f (mget l k) := by
  induction l generalizing k with
  | nil => simp at hk
  | cons a l ih =>
    rw [List.flatMap_cons]
    cases k with
    | zero => simp [mget]
    | succ k =>
      have := ih k (by simpa using hk)
      rw [show 2 * (k + 1) = (2 * k + 1) + 1 from by omega, show (2 * k + 1) + 1 + 1 = ((2 * k + 1) + 1) + 1 from rfl]
      simpa [mget] using this
theorem memTo_lt (T : Nat → Int) (k : Nat) : ∀ x ∈ memTo T k, x < k := fun x hx => ((mem_memTo T k x).1 hx).1
theorem memTo_rise (T : Nat → Int) (k i j : Nat) (hij : i < j) (hj : j < (memTo T k).length) : mget (memTo T k) i < mget (memTo T k) j := by
  induction k with
  | zero => simp [memTo] at hj
  | succ k ih =>
    rw [memTo] at hj ⊢
    by_cases c : memB T k = true
    · rw [if_pos c] at hj ⊢
      rw [List.length_append] at hj
      simp only [List.length_singleton] at hj
      have hi : mget (memTo T k ++ [k]) i = mget (memTo T k) i := by
        unfold mget
        rw [List.getD_eq_getElem?_getD, List.getD_eq_getElem?_getD, List.getElem?_append_left (by omega)]
      rw [hi]
      rcases Nat.lt_or_ge j (memTo T k).length with d | d
      · have hjj : mget (memTo T k ++ [k]) j = mget (memTo T k) j := by
          unfold mget
          rw [List.getD_eq_getElem?_getD, List.getD_eq_getElem?_getD, List.getElem?_append_left d]
        rw [hjj]; exact ih d
      · obtain rfl : j = (memTo T k).length := by omega
        have hjj : mget (memTo T k ++ [k]) (memTo T k).length = k := by
          unfold mget
          rw [List.getD_eq_getElem?_getD, List.getElem?_append_right (Nat.le_refl _)]
          simp
        rw [hjj]
        exact memTo_lt T k _ (mget_mem (by omega))
    · rw [if_neg c] at hj ⊢
      rw [List.append_nil] at hj ⊢
      exact ih hj

theorem Tab.out {T : Nat → Int} (h : Tab T) : outTo (endSh T) 256 = (memTo T 256).flatMap (fun v : Nat => [(v : Int), endSh T v]) := by
  have A := adm T h.nonneg 32
  have F := (h.fil (fillN T)).1
  refine outTo_mem T (endSh T) 256 fun v hv => ?_
  rw [mem_iff T h.nonneg v hv]
  constructor
  · intro hp
    rcases A.bit v with q | q
    · have := F.zero v q
      change endSh T v = 0 at this
      omega
    · exact q
  · intro q
    have := F.one v q
    change 1 ≤ endSh T v at this
    omega
theorem Tab.one {T : Nat → Int} (h : Tab T) (k : Nat) (hk : k < (memTo T 256).length) : mget (memTo T 256) k < 256 ∧ 1 ≤ endSh T (mget (memTo T 256) k) ∧ endSh T (mget (memTo T 256) k) ≤ 64 := by
  obtain ⟨a, b⟩ := (mem_memTo T 256 _).1 (mget_mem hk)
  have q := (mem_iff T h.nonneg _ a).1 b
  have o := (h.fil (fillN T)).1.one _ q
  change 1 ≤ endSh T _ at o
  exact ⟨a, o, (h.bd (fillN T) (Nat.le_refl _) _).2⟩
theorem Tab.sum64 {T : Nat → Int} (h : Tab T) : ((memTo T 256).map (endSh T)).sum = 64 := by
  have A := adm T h.nonneg 32
  have F := (h.fil (fillN T)).1
  rw [sum_mem]
  have e : sumN (fun w => if memB T w then endSh T w else 0) 256 = sumN (endSh T) 256 := by
    refine sumN_congr 256 fun w hw => ?_
    by_cases c : memB T w = true
    · rw [if_pos c]
    · rw [if_neg c]
      rcases A.bit w with q | q
      · have := F.zero w q
        change endSh T w = 0 at this
        exact this.symm
      · exact absurd ((mem_iff T h.nonneg w hw).2 q) c
  rw [e]
  have := F.sum
  change sumN (endSh T) 256 = _ at this
  have hbd := admN_bd T 32
  have hle := A.le
  rw [this]; unfold fillN; omega
theorem Tab.txt {T : Nat → Int} (h : Tab T) : (strOfNums (outTo (endSh T) 256)).size = 2 * (memTo T 256).length ∧ ∀ k, k < (memTo T 256).length →
    btn (strOfNums (outTo (endSh T) 256)) (2 * k) = mget (memTo T 256) k ∧ (btn (strOfNums (outTo (endSh T) 256)) (2 * k + 1) : Int) = endSh T (mget (memTo T 256) k) := by
  rw [h.out]
  have hall : ∀ x ∈ (memTo T 256).flatMap (fun v : Nat => [(v : Int), endSh T v]), 0 ≤ x ∧ x < 256 := by
    intro x hx
    obtain ⟨v, hv, hx⟩ := List.mem_flatMap.1 hx
    have hv2 := (mem_memTo T 256 v).1 hv
    have hb := h.bd (fillN T) (Nat.le_refl _) v
    change 0 ≤ endSh T v ∧ endSh T v ≤ 64 at hb
    simp only [List.mem_cons, List.not_mem_nil, or_false] at hx
    rcases hx with hx | hx <;> omega
  refine ⟨by rw [strOfNums_size, flat_len], fun k hk => ?_⟩
  obtain ⟨e1, e2⟩ := flat_val (memTo T 256) (endSh T) k hk
  have o := h.one k hk
  constructor
  · unfold btn
    rw [bt_str _ hall _ (by rw [flat_len]; omega), e1]; omega
  · unfold btn
    rw [bt_str _ hall _ (by rw [flat_len]; omega), e2]; omega
set_option maxRecDepth 100000 in
theorem Tab.isT {T : Nat → Int} (h : Tab T) : isTB (strOfNums (outTo (endSh T) 256)) = true := by
  obtain ⟨hs, hb⟩ := h.txt
  have hn : (strOfNums (outTo (endSh T) 256)).size / 2 = (memTo T 256).length := by omega
  rw [isTB_iff, hn]
  refine ⟨by omega, fun j hj => ⟨?_, ?_⟩, ?_⟩
  · have := (hb j hj).2
    have o := h.one j hj
    omega
  · rcases Nat.eq_zero_or_pos j with c | c
    · exact .inl c
    · right
      have e1 := (hb j hj).1
      have e2 := (hb (j - 1) (by omega)).1
      rw [show 2 * (j - 1) = 2 * j - 2 from by omega] at e2
      rw [e1, e2]
      exact memTo_rise T 256 (j - 1) j (by omega) hj
  · have key : ∀ k, k ≤ (memTo T 256).length → (totS (strOfNums (outTo (endSh T) 256)) k : Int) = (((memTo T 256).take k).map (endSh T)).sum := by
      intro k hk
      induction k with
      | zero => rfl
      | succ k ih =>
        rw [totS, List.take_succ_eq_append_getElem (by omega), List.map_append, List.sum_append, ← ih (by omega)]
        have e := (hb k (by omega)).2
        have em : mget (memTo T 256) k = (memTo T 256)[k] := by unfold mget; rw [List.getD_eq_getElem?_getD, List.getElem?_eq_getElem (by omega)]; rfl
        rw [em] at e
        simp only [List.map_cons, List.map_nil, List.sum_cons, List.sum_nil]
        omega
    have := key _ (Nat.le_refl _)
    rw [List.take_length, h.sum64] at this
    omega

/-! ### P4 to P6, plain: what is learned is a table. -/
/-- Every value of a table has a share. -/
theorem tShr_pos {t : ByteArray} (h : isTB t = true) {k : Nat} (hk : k < t.size / 2) : 1 ≤ tShr t (btn t (2 * k)) := by
  obtain ⟨_, hg, _⟩ := isTB_yes h
  have := shTab_hit hg hk
  show 1 ≤ shTab t (t.size / 2) (btn t (2 * k))
  rw [this]
  exact (hg k hk).1
/-- The bytes that are picked. -/
def pickTo (t s : ByteArray) : Nat → List Nat
  | 0 => []
  | k + 1 => pickTo t s k ++ [btn t (2 * (btn s k % (t.size / 2)))]
theorem pickTo_len (t s : ByteArray) (k : Nat) : (pickTo t s k).length = k := by
  induction k with
  | zero => rfl
  | succ k ih => rw [pickTo, List.length_append, ih]; rfl
theorem pickTo_mem {t s : ByteArray} (hL : 1 ≤ t.size / 2) {k : Nat} : ∀ x ∈ pickTo t s k, ∃ j, j < t.size / 2 ∧ x = btn t (2 * j) := by
  induction k with
  | zero => intro x hx; simp [pickTo] at hx
  | succ k ih =>
    intro x hx
    rw [pickTo, List.mem_append] at hx
    rcases hx with hx | hx
    · exact ih x hx
    · rw [List.mem_singleton] at hx
      exact ⟨_, Nat.mod_lt _ hL, hx⟩
theorem pick_allSh {t s : ByteArray} (h : isTB t = true) (hL : 1 ≤ t.size / 2) (k : Nat) : allSh t (strN (pickTo t s k)) = true := by
  simp only [allSh, decide_eq_true_eq]
  intro i hi
  rw [strN_size] at hi
  rw [strN_btn _ (fun x hx => by obtain ⟨j, _, rfl⟩ := pickTo_mem hL x hx; exact btn_lt _ _)]
  rw [List.getD_eq_getElem?_getD, List.getElem?_eq_getElem hi]
  obtain ⟨j, hj, e⟩ := pickTo_mem hL _ (List.getElem_mem hi)
  simp only [Option.getD_some]
  rw [e]
  exact tShr_pos h hj
theorem back_math {t x : ByteArray} (h : isTB t = true) (hx : allSh t x = true) (hn : x.size ≤ 500) :
    sqAns t x = (strN (packL (encB t x)), 0) ∧ 1 ≤ (strN (packL (encB t x))).size ∧ 8 * (strN (packL (encB t x))).size ≤ 6 * x.size + 14 ∧ usAns t (strN (packL (encB t x))) (x.size : Int) = (x, 0) := by
  have hk := tok h
  have hx' : ∀ j, j < x.size → 1 ≤ tShr t (btn x (x.size - 1 - j)) := by
    simp only [allSh, decide_eq_true_eq] at hx
    intro j hj
    exact hx _ (by omega)
  have hlen : (encB t x).length ≤ 6 + 6 * x.size := by
    have := (encOk hk x.size hx').len
    unfold encB
    rw [List.length_append, digB_len]; omega
  have hsz : (strN (packL (encB t x))).size = (encB t x).length / 8 + 1 := by rw [strN_size]; simp [packL]
  obtain ⟨r1, r2⟩ := round hk hx rfl
  refine ⟨?_, by omega, by omega, ?_⟩
  · unfold sqAns
    rw [if_neg (by omega), if_neg (by rw [h]; simp), if_neg (by rw [hx]; simp)]
  · unfold usAns
    rw [if_neg (by omega), if_neg (by omega), if_neg (by rw [h]; simp), Int.toNat_natCast, if_neg (by rw [r1]; simp), r2]
end Go.Proofs.Ytnconbpneimjiaa

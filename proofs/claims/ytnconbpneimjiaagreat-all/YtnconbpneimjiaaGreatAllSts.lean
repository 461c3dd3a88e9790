/-
  P1 to P15: the law All.
-/
import Derived.Test.YtnconbpneimjiaaGreatStoredLaw
import Derived.Test.YtnconbpneimjiaaGreatPick
import Derived.Deep.RegionHeld3
namespace Go.Proofs.YtnconbpneimjiaaGreat
open Go.RowKit Go.PlainAid

set_option maxRecDepth 100000 in
set_option maxHeartbeats 400000 in
theorem lpk_any (c : Int) (n : Nat) (w : World) (h0 : -9223372036854775808 ≤ c) (h1 : c ≤ 9223372036854775807) (hn : 1 ≤ n) (hn2 : n ≤ 1790000000000) :
    Calls Tryz.prog 9 #[.int .i64 c, .int .i64 n] w fun e w' => e = .returned (.int .i64 (pk c n : Int)) ∧ w' = w := by
  have hz : ((n : Int) == 0) = false := beq_eq_false_iff_ne.2 (by omega)
  have hz2 : ((n : Int) == -1) = false := beq_eq_false_iff_ne.2 (by omega)
  have hnz : (n : Int) ≠ 0 := by omega
  by_cases hc : c < 0
  · have HP := hid (show (pk c n : Int) = (-(c + 1)) % (n : Int) from by
      unfold pk
      rw [if_pos hc]
      have := Int.emod_nonneg (-(c + 1)) hnz
      omega)
    have m0 := Int.emod_nonneg (-(c + 1)) hnz
    have m1 := Int.emod_lt_of_pos (-(c + 1)) (show (0 : Int) < (n : Int) by omega)
    have hneg : 0 ≤ -(c + 1) := by omega
    obtain ⟨x, hx⟩ : ∃ x, -(c + 1) = x := ⟨_, rfl⟩
    rw [hx] at HP m0 m1 hneg
    have hx2 : x ≤ 9223372036854775807 := by omega
    go_enter Tryz.func9, Tryz.ntmps9
    go_wp2
    go_ret
    exact ⟨ret_int HP.out.symm, rfl⟩
  · have HP := hid (show (pk c n : Int) = c % (n : Int) from by
      unfold pk
      rw [if_neg hc]
      have := Int.emod_nonneg c hnz
      omega)
    have m0 := Int.emod_nonneg c hnz
    have m1 := Int.emod_lt_of_pos c (show (0 : Int) < (n : Int) by omega)
    have hc0 : 0 ≤ c := by omega
    have hcd : decide (c < 0) = false := by simp; omega
    go_enter Tryz.func9, Tryz.ntmps9
    go_wp2
    go_ret
    exact ⟨ret_int HP.out.symm, rfl⟩

set_option maxRecDepth 100000 in
theorem lnum_any (e : Int) (w : World) : Calls Tryz.prog 6 #[.int .i64 e] w fun r w' => r = .returned (.int .i64 e) ∧ w' = w := by
  go_enter Tryz.func6, Tryz.ntmps6
  go_wp2
  go_ret
  exact ⟨rfl, rfl⟩
/-- A call of the script. -/
structure OpR where
  kd : Int
  on : Int
  a : Int
  b : Int
  c : Int
  d : Int
  s : ByteArray
  t : ByteArray
/-- A twin of stores, and what they own. -/
structure TwR where
  x : Nat
  r : Nat
  FX : Nat → Prop
  FR : Nat → Prop
  room : Int
  l : List Ev
def TwR.own (T : TwR) (k : Nat) : Prop := T.FX k ∨ T.FR k
def TwR.lies (T : TwR) (w : World) : Prop := Twin w T.x T.r T.FX T.FR T.room T.l
def twCell (T : TwR) : List Value := [.pointer (some ⟨T.x, 0, none⟩), .pointer (some ⟨T.r, 0, none⟩)]
def twCells (T : Nat → TwR) : Nat → List Value
  | 0 => []
  | m + 1 => twCells T m ++ twCell (T m)
theorem twCells_len (T : Nat → TwR) (m : Nat) : (twCells T m).length = m * 2 := by
  induction m with
  | zero => rfl
  | succ m ih => rw [twCells, List.length_append, ih]; simp [twCell]; omega
theorem twCells_get (T : Nat → TwR) (m k : Nat) (hk : k < m) (i : Nat) (hi : i < 2) : (twCells T m)[k * 2 + i]? = (twCell (T k))[i]? := by
  induction m with
  | zero => omega
  | succ m ih =>
    rw [twCells, List.getElem?_append, twCells_len]
    rcases Nat.lt_or_ge k m with c | c
    · rw [if_pos (by omega)]; exact ih c
    · obtain rfl : k = m := by omega
      rw [if_neg (by omega), show k * 2 + i - k * 2 = i from by omega]
theorem twCells_congr {T T' : Nat → TwR} (m : Nat) (h : ∀ j, j < m → (T' j).x = (T j).x ∧ (T' j).r = (T j).r) : twCells T' m = twCells T m := by
  induction m with
  | zero => rfl
  | succ m ih =>
    rw [twCells, twCells, ih (fun j hj => h j (by omega))]
    unfold twCell
    rw [(h m (by omega)).1, (h m (by omega)).2]
theorem Tryz.infoTwin : (Tryz.prog.info? 35).map (fun i => (i.zero, i.size, i.bytes)) = some (some (.agg #[.pointer none, .pointer none]), 2, 16) := by kernel_rfl
/-- All the stores that there are, apart from each other and from the list of them. -/
structure Sts (w : World) (base : Nat) (v : Value) (m n : Nat) (T : Nat → TwR) : Prop where
  row : w.ownsRow base 35 2 v m (twCells T m)
  lies : ∀ j, j < m → (T j).lies w
  len : ∀ j, j < m → (T j).l.length ≤ n
  base : ∀ j, j < m → ∀ k, (T j).own k → base ≤ k
  apart : ∀ i j, i < m → j < m → i ≠ j → ∀ k, (T i).own k → ¬ (T j).own k
  free : ∀ j, j < m → ∀ k, (T j).own k → v.ownBlock ≠ some k
section
variable {w w' : World} {base m n : Nat} {v : Value} {T : Nat → TwR}
theorem Sts.none (w : World) (base : Nat) (T : Nat → TwR) : Sts w base (.slice none 0 0) 0 0 T :=
  ⟨World.ownsRow_nil _ _ _ _, fun j hj => by omega, fun j hj => by omega, fun j hj => by omega, fun i j hi => by omega, fun j hj => by omega⟩
theorem Sts.lt (h : Sts w base v m n T) (j : Nat) (hj : j < m) (k : Nat) (hk : (T j).own k) : k < w.heap.size := (h.lies j hj).lt k hk
theorem Sts.below (h : Sts w base v m n T) (hb : Below w.heap.size w w') : Sts w' base v m n T :=
  ⟨own_below h.row hb, fun j hj => (h.lies j hj).below hb, h.len, h.base, h.apart, h.free⟩
theorem Sts.more (h : Sts w base v m n T) {n' : Nat} (hn : n ≤ n') : Sts w base v m n' T := ⟨h.row, h.lies, fun j hj => Nat.le_trans (h.len j hj) hn, h.base, h.apart, h.free⟩
/-- A call of one of them. -/
theorem Sts.call (h : Sts w base v m n T) {q : Nat} (hq : q < m) {FX' FR' : Nat → Prop} {l' : List Ev} (hB : base ≤ w.heap.size)
    (h1 : Twin w' (T q).x (T q).r FX' FR' (T q).room l') (h2 : l'.length ≤ (T q).l.length + 1) (h3 : ChgF (fun k => (T q).FX k ∨ (T q).FR k) w w') (h4 : GrowF w (fun k => (T q).FX k ∨ (T q).FR k) (fun k => FX' k ∨ FR' k)) :
    Sts w' base v m (n + 1) (fun j => if j = q then ⟨(T q).x, (T q).r, FX', FR', (T q).room, l'⟩ else T j) := by
  have hown : ∀ j, j < m → ∀ k, (if j = q then (⟨(T q).x, (T q).r, FX', FR', (T q).room, l'⟩ : TwR) else T j).own k → (T j).own k ∨ (j = q ∧ w.heap.size ≤ k) := by
    intro j hj k hk
    split at hk
    · rename_i e
      subst e
      rcases h4 k hk with q1 | q1
      · exact .inl q1
      · exact .inr ⟨rfl, q1⟩
    · exact .inl hk
  refine ⟨?_, fun j hj => ?_, fun j hj => ?_, fun j hj k hk => ?_, fun i j hi hj hne k hk hk2 => ?_, fun j hj k hk => ?_⟩
  · rw [twCells_congr m (T := T) (fun j hj => by split <;> simp_all)]
    refine ⟨h.row.1, ?_⟩
    rcases h.row.2 with hn | ⟨g, cap, cur, rfl, hb, hg, rest⟩
    · exact .inl hn
    · refine .inr ⟨g, cap, cur, rfl, hb, ?_, rest⟩
      rw [h3.block g (Array.getElem?_eq_some_iff.1 hg).1 (fun q1 => h.free q hq g q1 rfl)]
      exact hg
  · split
    · exact h1
    · rename_i e
      exact (h.lies j hj).chg h3 (fun k q1 q2 => h.apart j q hj hq e k q1 q2)
  · split
    · have := h.len q hq; simp only; omega
    · have := h.len j hj; omega
  · rcases hown j hj k hk with q1 | ⟨_, q1⟩
    · exact h.base j hj k q1
    · omega
  · rcases hown i hi k hk with q1 | ⟨e1, q1⟩
    · rcases hown j hj k hk2 with q2 | ⟨e2, q2⟩
      · exact h.apart i j hi hj hne k q1 q2
      · have := h.lt i hi k q1; omega
    · rcases hown j hj k hk2 with q2 | ⟨e2, q2⟩
      · have := h.lt j hj k q2; omega
      · omega
  · rcases hown j hj k hk with q1 | ⟨e1, q1⟩
    · exact h.free j hj k q1
    · intro q2
      have := (h.row.lt k q2).2
      omega
/-- One more. -/
theorem Sts.push (h : Sts w base v m n T) {o : Obj} {v' : Value} {T1 : TwR} (_hB : base ≤ w.heap.size) (hT : T1.lies w) (hl : T1.l.length ≤ n) (hb : ∀ k, T1.own k → base ≤ k) (hd : ∀ j, j < m → ∀ k, (T j).own k → ¬ T1.own k) (hf : ∀ k, T1.own k → v.ownBlock ≠ some k)
    (hr : w'.ownsRow base 35 2 v' (m + 1) (twCells T m ++ twCell T1)) (hg : (w.alloc o).grownBy w' v.ownBlock) (hat : v'.ownBlock = v.ownBlock ∨ v'.ownBlock = some (w.alloc o).heap.size) :
    Sts w' base v' (m + 1) n (fun j => if j = m then T1 else T j) := by
  have hc : ChgF (fun k => v.ownBlock = some k) w w' := ⟨hg.os, hg.tape, hg.output, by have := hg.size; simp at this; omega, fun k hk hn => by
    rw [hg.block k (by simp; omega) (fun q => hn q.symm), Below.heap_alloc _ _ _ hk]⟩
  have ho : ∀ j, j < m + 1 → ∀ k, (if j = m then T1 else T j).own k → (j < m ∧ (T j).own k) ∨ (j = m ∧ T1.own k) := by
    intro j hj k hk
    split at hk
    · rename_i e; exact .inr ⟨e, hk⟩
    · rename_i e; exact .inl ⟨by omega, hk⟩
  refine ⟨?_, fun j hj => ?_, fun j hj => ?_, fun j hj k hk => ?_, fun i j hi hj hne k hk hk2 => ?_, fun j hj k hk => ?_⟩
  · have e : twCells (fun j => if j = m then T1 else T j) (m + 1) = twCells T m ++ twCell T1 := by
      rw [twCells, twCells_congr m (T := T) (fun j hj => by rw [if_neg (by omega)]; exact ⟨rfl, rfl⟩), if_pos rfl]
    rw [e]; exact hr
  · split
    · exact hT.chg hc (fun k q1 q2 => hf k q1 q2)
    · rename_i e
      exact (h.lies j (by omega)).chg hc (fun k q1 q2 => h.free j (by omega) k q1 q2)
  · split
    · exact hl
    · exact h.len j (by omega)
  · rcases ho j hj k hk with ⟨e, q⟩ | ⟨e, q⟩
    · exact h.base j e k q
    · exact hb k q
  · rcases ho i hi k hk with ⟨e, q⟩ | ⟨e, q⟩
    · rcases ho j hj k hk2 with ⟨e2, q2⟩ | ⟨e2, q2⟩
      · exact h.apart i j e e2 hne k q q2
      · exact hd i e k q q2
    · rcases ho j hj k hk2 with ⟨e2, q2⟩ | ⟨e2, q2⟩
      · exact hd j e2 k q2 q
      · omega
  · intro q2
    rcases ho j hj k hk with ⟨e, q⟩ | ⟨e, q⟩
    · rcases hat with e1 | e1
      · exact h.free j e k q (by rw [← e1]; exact q2)
      · rw [e1] at q2
        simp only [Option.some.injEq] at q2
        have := h.lt j e k q
        simp at q2
        omega
    · rcases hat with e1 | e1
      · exact hf k q (by rw [← e1]; exact q2)
      · rw [e1] at q2
        simp only [Option.some.injEq] at q2
        have := hT.lt k q
        simp at q2
        omega
end
end Go.Proofs.YtnconbpneimjiaaGreat

/-
  P13 to P15: what the law Keeps has in memory.
-/
import Derived.Test.YtnconbpneimjiaaKeepMath
import Derived.Test.YtnconbpneimjiaaStoProg
namespace Go.Proofs.Ytnconbpneimjiaa
open Go.RowKit Go.PlainAid

/-- How long the rows are: ids, files, bound, has, rec, by, with. -/
def nK (j : Nat) : Nat := if j = 1 then 8 else if j = 0 ∨ j = 2 then 4 else 5
/-- Keeps' own world: its struct at b, its seven rows at g, its store at x. -/
structure KM (w : World) (B b x : Nat) (room : Int) (g c : Nat → Nat) (F : Nat → Prop) (fls bnd rec wth : Nat → ByteArray) (has : Nat → Bool) (by' : Nat → Nat) : Prop where
  lt : b < w.heap.size
  glt : ∀ j, j < 7 → g j < w.heap.size
  gb : ∀ j, j < 7 → g j ≠ b
  gd : ∀ i j, i < 7 → j < 7 → i ≠ j → g i ≠ g j
  gF : ∀ j, j < 7 → ¬ F (g j)
  bF : ¬ F b
  Bb : B ≤ b
  Bg : ∀ j, j < 7 → B ≤ g j
  BF : ∀ k, F k → B ≤ k
  p0 : w.cell? ⟨b, 0, none⟩ = some (.pointer (some ⟨x, 0, none⟩))
  p1 : w.cell? ⟨b, 1, none⟩ = some (.int .i64 room)
  sl : ∀ j, j < 7 → w.cell? ⟨b, 2 + j, none⟩ = some (.slice (some ⟨g j, 0, none⟩) (nK j) (c j))
  c0 : ∀ i, i < 4 → w.cell? ⟨g 0, i, none⟩ = some (.int .i64 (idK i : Int))
  c1 : ∀ i, i < 8 → w.cell? ⟨g 1, i, none⟩ = some (.string (fls i))
  c2 : ∀ i, i < 4 → w.cell? ⟨g 2, i, none⟩ = some (.string (bnd i))
  c3 : ∀ i, i < 5 → w.cell? ⟨g 3, i, none⟩ = some (.bool (has i))
  c4 : ∀ i, i < 5 → w.cell? ⟨g 4, i, none⟩ = some (.string (rec i))
  c5 : ∀ i, i < 5 → w.cell? ⟨g 5, i, none⟩ = some (.int .i64 (by' i : Int))
  c6 : ∀ i, i < 5 → w.cell? ⟨g 6, i, none⟩ = some (.string (wth i))
  fz : ∀ j, j < 7 → ∀ i, w.frozen? ⟨g j, i, none⟩ = false
section
variable {w w' : World} {B b x : Nat} {room : Int} {g c : Nat → Nat} {F F' : Nat → Prop} {fls bnd rec wth : Nat → ByteArray} {has : Nat → Bool} {by' : Nat → Nat}
theorem KM.chg (h : KM w B b x room g c F fls bnd rec wth has by') (hc : ChgF F w w') (hg : GrowF w F F') (hB : B ≤ w.heap.size) : KM w' B b x room g c F' fls bnd rec wth has by' := by
  have kb : ∀ o, w'.cell? ⟨b, o, none⟩ = w.cell? ⟨b, o, none⟩ := fun o => World.cell?_of_block (hc.block b h.lt h.bF)
  have kg : ∀ j, j < 7 → ∀ o, w'.cell? ⟨g j, o, none⟩ = w.cell? ⟨g j, o, none⟩ := fun j hj o => World.cell?_of_block (hc.block (g j) (h.glt j hj) (h.gF j hj))
  refine ⟨Nat.lt_of_lt_of_le h.lt hc.size, fun j hj => Nat.lt_of_lt_of_le (h.glt j hj) hc.size, h.gb, h.gd, fun j hj q => ?_, fun q => ?_, h.Bb, h.Bg, fun k q => ?_, (kb 0).trans h.p0, (kb 1).trans h.p1, fun j hj => (kb _).trans (h.sl j hj),
    fun i hi => (kg 0 (by omega) i).trans (h.c0 i hi), fun i hi => (kg 1 (by omega) i).trans (h.c1 i hi), fun i hi => (kg 2 (by omega) i).trans (h.c2 i hi), fun i hi => (kg 3 (by omega) i).trans (h.c3 i hi), fun i hi => (kg 4 (by omega) i).trans (h.c4 i hi), fun i hi => (kg 5 (by omega) i).trans (h.c5 i hi), fun i hi => (kg 6 (by omega) i).trans (h.c6 i hi),
    fun j hj i => (World.frozen?_of_block (a := ⟨g j, i, none⟩) (hc.block (g j) (h.glt j hj) (h.gF j hj))).trans (h.fz j hj i)⟩
  · rcases hg _ q with e | e
    · exact h.gF j hj e
    · have := h.glt j hj; omega
  · rcases hg _ q with e | e
    · exact h.bF e
    · have := h.lt; omega
  · rcases hg _ q with e | e
    · exact h.BF k e
    · omega
theorem KM.below (h : KM w B b x room g c F fls bnd rec wth has by') (hb : Below w.heap.size w w') (hB : B ≤ w.heap.size) : KM w' B b x room g c F fls bnd rec wth has by' := h.chg (ChgF.ofBelow hb) (GrowF.refl _ _) hB
/-- What a store into row j leaves of all else. -/
theorem KM.seen (h : KM w B b x room g c F fls bnd rec wth has by') {j : Nat} (hj : j < 7) (i : Nat) (v : Value) :
    (∀ o, (w.setCell ⟨g j, i, none⟩ v).cell? ⟨b, o, none⟩ = w.cell? ⟨b, o, none⟩) ∧ (∀ k, k < 7 → k ≠ j → ∀ o, (w.setCell ⟨g j, i, none⟩ v).cell? ⟨g k, o, none⟩ = w.cell? ⟨g k, o, none⟩) ∧
    (∀ o, o ≠ i → (w.setCell ⟨g j, i, none⟩ v).cell? ⟨g j, o, none⟩ = w.cell? ⟨g j, o, none⟩) ∧ (∀ u, w.cell? ⟨g j, i, none⟩ = some u → (w.setCell ⟨g j, i, none⟩ v).cell? ⟨g j, i, none⟩ = some v) := by
  refine ⟨fun o => World.cell?_setCell_other _ _ _ _ (fun q => ?_), fun k hk hne o => World.cell?_setCell_other _ _ _ _ (fun q => ?_), fun o ho => World.cell?_setCell_other _ _ _ _ (fun q => ?_), fun u hu => World.cell?_setCell_same _ _ _ hu⟩
  · simp only [Addr.mk.injEq] at q; exact h.gb j hj q.1
  · simp only [Addr.mk.injEq] at q; exact h.gd k j hk hj hne q.1.symm
  · simp only [Addr.mk.injEq] at q; exact ho q.2.1.symm
theorem KM.set2 (h : KM w B b x room g c F fls bnd rec wth has by') {i : Nat} (hi : i < 4) (v : ByteArray) : KM (w.setCell ⟨g 2, i, none⟩ (.string v)) B b x room g c F fls (fun k => if k = i then v else bnd k) rec wth has by' := by
  obtain ⟨kb, kg, ko, ks⟩ := h.seen (j := 2) (by omega) i (.string v)
  have hz : (w.setCell ⟨g 2, i, none⟩ (.string v)).heap.size = w.heap.size := by simp [World.setCell]
  refine ⟨by rw [hz]; exact h.lt, fun k hk => by rw [hz]; exact h.glt k hk, h.gb, h.gd, h.gF, h.bF, h.Bb, h.Bg, h.BF, (kb 0).trans h.p0, (kb 1).trans h.p1, fun k hk => (kb _).trans (h.sl k hk),
    fun k hk => (kg 0 (by omega) (by omega) k).trans (h.c0 k hk), fun k hk => (kg 1 (by omega) (by omega) k).trans (h.c1 k hk), fun k hk => ?_, fun k hk => (kg 3 (by omega) (by omega) k).trans (h.c3 k hk), fun k hk => (kg 4 (by omega) (by omega) k).trans (h.c4 k hk), fun k hk => (kg 5 (by omega) (by omega) k).trans (h.c5 k hk), fun k hk => (kg 6 (by omega) (by omega) k).trans (h.c6 k hk), fun k hk o => by rw [World.frozen?_setCell]; exact h.fz k hk o⟩
  by_cases e : k = i
  · rw [if_pos e, e]; exact ks _ (h.c2 i hi)
  · rw [if_neg e]; exact (ko k e).trans (h.c2 k hk)
theorem KM.set3 (h : KM w B b x room g c F fls bnd rec wth has by') {i : Nat} (hi : i < 5) (v : Bool) : KM (w.setCell ⟨g 3, i, none⟩ (.bool v)) B b x room g c F fls bnd rec wth (fun k => if k = i then v else has k) by' := by
  obtain ⟨kb, kg, ko, ks⟩ := h.seen (j := 3) (by omega) i (.bool v)
  have hz : (w.setCell ⟨g 3, i, none⟩ (.bool v)).heap.size = w.heap.size := by simp [World.setCell]
  refine ⟨by rw [hz]; exact h.lt, fun k hk => by rw [hz]; exact h.glt k hk, h.gb, h.gd, h.gF, h.bF, h.Bb, h.Bg, h.BF, (kb 0).trans h.p0, (kb 1).trans h.p1, fun k hk => (kb _).trans (h.sl k hk),
    fun k hk => (kg 0 (by omega) (by omega) k).trans (h.c0 k hk), fun k hk => (kg 1 (by omega) (by omega) k).trans (h.c1 k hk), fun k hk => (kg 2 (by omega) (by omega) k).trans (h.c2 k hk), fun k hk => ?_, fun k hk => (kg 4 (by omega) (by omega) k).trans (h.c4 k hk), fun k hk => (kg 5 (by omega) (by omega) k).trans (h.c5 k hk), fun k hk => (kg 6 (by omega) (by omega) k).trans (h.c6 k hk), fun k hk o => by rw [World.frozen?_setCell]; exact h.fz k hk o⟩
  by_cases e : k = i
  · rw [if_pos e, e]; exact ks _ (h.c3 i hi)
  · rw [if_neg e]; exact (ko k e).trans (h.c3 k hk)
theorem KM.set4 (h : KM w B b x room g c F fls bnd rec wth has by') {i : Nat} (hi : i < 5) (v : ByteArray) : KM (w.setCell ⟨g 4, i, none⟩ (.string v)) B b x room g c F fls bnd (fun k => if k = i then v else rec k) wth has by' := by
  obtain ⟨kb, kg, ko, ks⟩ := h.seen (j := 4) (by omega) i (.string v)
  have hz : (w.setCell ⟨g 4, i, none⟩ (.string v)).heap.size = w.heap.size := by simp [World.setCell]
  refine ⟨by rw [hz]; exact h.lt, fun k hk => by rw [hz]; exact h.glt k hk, h.gb, h.gd, h.gF, h.bF, h.Bb, h.Bg, h.BF, (kb 0).trans h.p0, (kb 1).trans h.p1, fun k hk => (kb _).trans (h.sl k hk),
    fun k hk => (kg 0 (by omega) (by omega) k).trans (h.c0 k hk), fun k hk => (kg 1 (by omega) (by omega) k).trans (h.c1 k hk), fun k hk => (kg 2 (by omega) (by omega) k).trans (h.c2 k hk), fun k hk => (kg 3 (by omega) (by omega) k).trans (h.c3 k hk), fun k hk => ?_, fun k hk => (kg 5 (by omega) (by omega) k).trans (h.c5 k hk), fun k hk => (kg 6 (by omega) (by omega) k).trans (h.c6 k hk), fun k hk o => by rw [World.frozen?_setCell]; exact h.fz k hk o⟩
  by_cases e : k = i
  · rw [if_pos e, e]; exact ks _ (h.c4 i hi)
  · rw [if_neg e]; exact (ko k e).trans (h.c4 k hk)
theorem KM.set5 (h : KM w B b x room g c F fls bnd rec wth has by') {i : Nat} (hi : i < 5) (v : Nat) : KM (w.setCell ⟨g 5, i, none⟩ (.int .i64 (v : Int))) B b x room g c F fls bnd rec wth has (fun k => if k = i then v else by' k) := by
  obtain ⟨kb, kg, ko, ks⟩ := h.seen (j := 5) (by omega) i (.int .i64 (v : Int))
  have hz : (w.setCell ⟨g 5, i, none⟩ (.int .i64 (v : Int))).heap.size = w.heap.size := by simp [World.setCell]
  refine ⟨by rw [hz]; exact h.lt, fun k hk => by rw [hz]; exact h.glt k hk, h.gb, h.gd, h.gF, h.bF, h.Bb, h.Bg, h.BF, (kb 0).trans h.p0, (kb 1).trans h.p1, fun k hk => (kb _).trans (h.sl k hk),
    fun k hk => (kg 0 (by omega) (by omega) k).trans (h.c0 k hk), fun k hk => (kg 1 (by omega) (by omega) k).trans (h.c1 k hk), fun k hk => (kg 2 (by omega) (by omega) k).trans (h.c2 k hk), fun k hk => (kg 3 (by omega) (by omega) k).trans (h.c3 k hk), fun k hk => (kg 4 (by omega) (by omega) k).trans (h.c4 k hk), fun k hk => ?_, fun k hk => (kg 6 (by omega) (by omega) k).trans (h.c6 k hk), fun k hk o => by rw [World.frozen?_setCell]; exact h.fz k hk o⟩
  by_cases e : k = i
  · rw [if_pos e, e]; exact ks _ (h.c5 i hi)
  · rw [if_neg e]; exact (ko k e).trans (h.c5 k hk)
theorem KM.set6 (h : KM w B b x room g c F fls bnd rec wth has by') {i : Nat} (hi : i < 5) (v : ByteArray) : KM (w.setCell ⟨g 6, i, none⟩ (.string v)) B b x room g c F fls bnd rec (fun k => if k = i then v else wth k) has by' := by
  obtain ⟨kb, kg, ko, ks⟩ := h.seen (j := 6) (by omega) i (.string v)
  have hz : (w.setCell ⟨g 6, i, none⟩ (.string v)).heap.size = w.heap.size := by simp [World.setCell]
  refine ⟨by rw [hz]; exact h.lt, fun k hk => by rw [hz]; exact h.glt k hk, h.gb, h.gd, h.gF, h.bF, h.Bb, h.Bg, h.BF, (kb 0).trans h.p0, (kb 1).trans h.p1, fun k hk => (kb _).trans (h.sl k hk),
    fun k hk => (kg 0 (by omega) (by omega) k).trans (h.c0 k hk), fun k hk => (kg 1 (by omega) (by omega) k).trans (h.c1 k hk), fun k hk => (kg 2 (by omega) (by omega) k).trans (h.c2 k hk), fun k hk => (kg 3 (by omega) (by omega) k).trans (h.c3 k hk), fun k hk => (kg 4 (by omega) (by omega) k).trans (h.c4 k hk), fun k hk => (kg 5 (by omega) (by omega) k).trans (h.c5 k hk), fun k hk => ?_, fun k hk o => by rw [World.frozen?_setCell]; exact h.fz k hk o⟩
  by_cases e : k = i
  · rw [if_pos e, e]; exact ks _ (h.c6 i hi)
  · rw [if_neg e]; exact (ko k e).trans (h.c6 k hk)
/-- A store into Keeps' own. -/
theorem KM.bset (h : KM w B b x room g c F fls bnd rec wth has by') {j : Nat} (hj : j < 7) (i : Nat) (v : Value) : Below B w (w.setCell ⟨g j, i, none⟩ v) := (Below.refl B w).setCell (h.Bg j hj) v
end
/-- Keeps' world whole. -/
structure KSt (w : World) (B b x : Nat) (room : Int) (g c : Nat → Nat) (F : Nat → Prop) (l : List Ev) (fls bnd rec wth : Nat → ByteArray) (has : Nat → Bool) (by' : Nat → Nat) : Prop where
  ps : PS w x F room l
  km : KM w B b x room g c F fls bnd rec wth has by'
  inv : KInv room l fls bnd rec wth has by'
  sz : B ≤ w.heap.size
/-- The blocks that are Keeps' own. -/
def KF (F : Nat → Prop) (b : Nat) (g : Nat → Nat) (k : Nat) : Prop := F k ∨ k = b ∨ ∃ j, j < 7 ∧ k = g j
theorem ChgF.setG {G : Nat → Prop} {w w' : World} (h : ChgF G w w') {a : Addr} (ha : G a.block) (v : Value) : ChgF G w (w'.setCell a v) :=
  ⟨h.os, h.tape, h.output, by simp [World.setCell]; exact h.size, fun k hk hn => (Below.heap_setCell w' a v k (fun e => hn (by rw [e]; exact ha))).trans (h.block k hk hn)⟩
theorem ChgF.drew {G : Nat → Prop} {w w' : World} (h : ChgF G w w') : ChgF G w w'.drew := ⟨h.os, h.tape, h.output, h.size, h.block⟩
/-- What a step leaves. -/
def KPost (w : World) (B b x : Nat) (room : Int) (g c : Nat → Nat) (F : Nat → Prop) (l : List Ev) (fls : Nat → ByteArray) (w' : World) : Prop :=
  ∃ F' l' bnd rec wth has by', KSt w' B b x room g c F' l' fls bnd rec wth has by' ∧ l'.length ≤ l.length + 1 ∧ ChgF (KF F b g) w w'
theorem KF.own {F : Nat → Prop} {b : Nat} {g : Nat → Nat} {j : Nat} (hj : j < 7) : KF F b g (g j) := .inr (.inr ⟨j, hj, rfl⟩)
theorem KF.of {F : Nat → Prop} {b : Nat} {g : Nat → Nat} {w w' : World} (h : ChgF F w w') : ChgF (KF F b g) w w' := h.mono (fun _ q => .inl q)
theorem KSt.base {w : World} {B b x : Nat} {room : Int} {g c : Nat → Nat} {F : Nat → Prop} {l : List Ev} {fls bnd rec wth : Nat → ByteArray} {has : Nat → Bool} {by' : Nat → Nat} (h : KSt w B b x room g c F l fls bnd rec wth has by') (k : Nat) (hk : KF F b g k) : B ≤ k := by
  rcases hk with q | q | ⟨j, hj, q⟩
  · exact h.km.BF k q
  · rw [q]; exact h.km.Bb
  · rw [q]; exact h.km.Bg j hj
theorem KSt.lt {w : World} {B b x : Nat} {room : Int} {g c : Nat → Nat} {F : Nat → Prop} {l : List Ev} {fls bnd rec wth : Nat → ByteArray} {has : Nat → Bool} {by' : Nat → Nat} (h : KSt w B b x room g c F l fls bnd rec wth has by') (k : Nat) (hk : KF F b g k) : k < w.heap.size := by
  rcases hk with q | q | ⟨j, hj, q⟩
  · exact h.ps.lt k q
  · rw [q]; exact h.km.lt
  · rw [q]; exact h.km.glt j hj
theorem PS.setc {w : World} {p : Nat} {F : Nat → Prop} {room : Int} {l : List Ev} (h : PS w p F room l) {a : Addr} (ha : ¬ F a.block) (v : Value) : PS (w.setCell a v) p F room l :=
  h.kept (by simp [World.setCell]) (fun k hk => Below.heap_setCell w a v k (fun e => ha (by rw [← e]; exact hk)))
end Go.Proofs.Ytnconbpneimjiaa

/-
  P13 to P15: how Keeps begins: its files; its world in the making.
-/
import Derived.Test.YtnconbpneimjiaaKeepStep
import Derived.Test.YtnconbpneimjiaaKeepFile
import Derived.Test.YtnconbpneimjiaaTrainLaw
import Derived.Test.YtnconbpneimjiaaOwnBel
namespace Go.Proofs.Ytnconbpneimjiaa
open Go.RowKit Go.PlainAid

/-- A file's text, its k. -/
def kTx (a b : ByteArray) (j : Nat) : ByteArray := if j = 1 then smN b 800 else smN a 800
def kK (t : ByteArray) : Nat := 1 + pk ((t.size : Int) - 1) 12
/-- The file that Keeps learns. -/
def kFl (a b : ByteArray) (f : Nat) : ByteArray := (trAns ((idK (f / 2) : Nat) : Int) (kTx a b (f % 2)) ((kK (kTx a b (f % 2)) : Nat) : Int) ((1 + kK (kTx a b (f % 2)) / 3 : Nat) : Int) ((kK (kTx a b (f % 2)) + 20 * (f / 2) + 60 : Nat) : Int)).1
theorem kTx_bd (a b : ByteArray) (j : Nat) : 1 ≤ (kTx a b j).size ∧ (kTx a b j).size ≤ 800 := by
  unfold kTx
  split <;> exact smN_bd _ (by omega)
theorem kK_bd {t : ByteArray} (h : 1 ≤ t.size) : 1 ≤ kK t ∧ kK t ≤ 12 ∧ kK t ≤ t.size := by
  unfold kK
  have h1 := pk_lt ((t.size : Int) - 1) (n := 12) (by omega)
  refine ⟨by omega, by omega, ?_⟩
  unfold pk
  rw [if_neg (by omega)]
  omega
theorem kFl_is (a b : ByteArray) {f : Nat} (hf : f < 8) :
    trAns ((idK (f / 2) : Nat) : Int) (kTx a b (f % 2)) ((kK (kTx a b (f % 2)) : Nat) : Int) ((1 + kK (kTx a b (f % 2)) / 3 : Nat) : Int) ((kK (kTx a b (f % 2)) + 20 * (f / 2) + 60 : Nat) : Int) = (kFl a b f, 0) ∧ pOk (kFl a b f) ∧ num (kFl a b f) 3 2 = idK (f / 2) ∧ 15 ≤ (kFl a b f).size ∧ (kFl a b f).size ≤ 1000 := by
  have ht := kTx_bd a b (f % 2)
  have hk := kK_bd ht.1
  have hi := idK_lt (i := f / 2) (by omega)
  unfold kFl
  generalize kTx a b (f % 2) = t at *
  generalize kK t = k at *
  generalize idK (f / 2) = id at *
  have he : covErr t ((k : Nat) : Int) ((1 + k / 3 : Nat) : Int) ((k + 20 * (f / 2) + 60 : Nat) : Int) = 0 := covErr_ok (by omega) (by omega)
  have hA : trAns (id : Int) t ((k : Nat) : Int) ((1 + k / 3 : Nat) : Int) ((k + 20 * (f / 2) + 60 : Nat) : Int) = (wFile id (tabAns t).1 (cov t k (1 + k / 3) (k + 20 * (f / 2) + 60)), 0) := by
    unfold trAns
    rw [if_pos he, if_neg (by omega)]
    simp only [Int.toNat_natCast]
  rw [hA]
  have hc := cov_bd he
  simp only [Int.toNat_natCast] at hc
  have tb := (tab_is (s := t) (by omega) ht.2).2
  have hs := wFile_size id (tabAns t).1 (cov t k (1 + k / 3) (k + 20 * (f / 2) + 60))
  have h2 := isTB_two tb
  have h3 := isTB_size tb
  obtain ⟨p1, p2, _, _⟩ := file_read (id := id) hi tb hc.1 hc.2
  exact ⟨rfl, p1, p2, by show 15 ≤ (wFile _ _ _).size; omega, by show (wFile _ _ _).size ≤ 1000; omega⟩

/-! ### The World in the making -/
def bRow (px : Value) (room : Int) (vs : Nat → Value) (i : Nat) : Value := if i = 0 then px else if i = 1 then .int .i64 room else vs (i - 2)
/-- What the rows are of. -/
def eK (j : Nat) : Nat := if j = 3 then 4 else if j = 0 ∨ j = 5 then 3 else 9
def up {α : Type} (f : Nat → α) (j : Nat) (v : α) (k : Nat) : α := if k = j then v else f k
theorem up_same {α : Type} (f : Nat → α) (j : Nat) (v : α) : up f j v j = v := if_pos rfl
theorem up_other {α : Type} (f : Nat → α) {j k : Nat} (v : α) (h : k ≠ j) : up f j v k = f k := if_neg h
/-- How long the rows are: ids, files, bound, keys. -/
def bN (i f d k j : Nat) : Nat := if j = 0 then i else if j = 1 then f else if j = 2 then d else k
/-- What the rows hold. -/
def bX (fls : Nat → ByteArray) (i f d k j : Nat) : List Value :=
  if j = 0 then (List.range i).map (fun t => .int .i64 ((idK t : Nat) : Int)) else if j = 1 then (List.range f).map (fun t => .string (fls t)) else if j = 2 then (List.range d).map (fun _ => .string ⟨#[]⟩) else
  if j = 3 then (List.range k).map (fun _ => .bool false) else if j = 5 then (List.range k).map (fun _ => .int .i64 0) else (List.range k).map (fun _ => .string ⟨#[]⟩)
structure Beg (w : World) (b B : Nat) (px : Value) (room : Int) (vs : Nat → Value) (n : Nat → Nat) (xs : Nat → List Value) : Prop where
  lt : b < B
  row : w.rowIs b 65 9 (bRow px room vs)
  own : ∀ j, j < 7 → w.ownsRow B (eK j) 1 (vs j) (n j) (xs j)
  ap : ∀ i j, i < 7 → j < 7 → i ≠ j → apart (vs i) (vs j)
section
variable {w w2 W : World} {o : Obj} {b B : Nat} {px v' x : Value} {room : Int} {vs : Nat → Value} {n n' : Nat → Nat} {xs xs' : Nat → List Value}
theorem Beg.mid (h : Beg w b B px room vs n xs) {j : Nat} (hj : j < 7) (hg : (w.alloc o).grownBy w2 (vs j).ownBlock) : w2.rowIs b 65 9 (bRow px room vs) := by
  have hl := World.rowIs.lt h.row
  have h0 := h.lt
  refine World.rowIs.of_block (World.rowIs.alloc h.row o) (hg.block b (by simp; omega) (fun e => ?_))
  have := own_base (h.own j hj) b e.symm
  omega
theorem Beg.app (h : Beg w b B px room vs n xs) {j : Nat} (hj : j < 7) (hg : (w.alloc o).grownBy w2 (vs j).ownBlock) (ho : w2.ownsRow B (eK j) 1 v' (n j + 1) (xs j ++ [x])) (hat : v'.ownBlock = (vs j).ownBlock ∨ v'.ownBlock = some (w.alloc o).heap.size) :
    Beg (w2.setCell ⟨b, 2 + j, none⟩ v') b B px room (up vs j v') (up n j (n j + 1)) (up xs j (xs j ++ [x])) := by
  refine ⟨h.lt, World.rowIs.congr (World.rowIs.set (h.mid hj hg) (2 + j) v') (fun i hi => ?_), fun k hk => ?_, fun i k hi hk hne => ?_⟩
  · unfold bRow up
    by_cases c : i = 2 + j
    · subst c
      simp [show ¬ 2 + j = 1 by omega, show 2 + j - 2 = j by omega]
    · by_cases c0 : i = 0
      · subst c0; simp; try omega
      · by_cases c1 : i = 1
        · subst c1; simp; try omega
        · rw [if_neg c0, if_neg c1, if_neg (show ¬ i - 2 = j by omega)]
          simp [c, c0, c1]
  · by_cases c : k = j
    · subst c
      rw [up_same, up_same, up_same]
      exact ownsRow_setCell_below ho h.lt v'
    · rw [up_other _ _ c, up_other _ _ c, up_other _ _ c]
      exact own_step (h.own k hk) (h.ap k j hk hj c) hg h.lt
  · by_cases ci : i = j
    · subst ci
      rw [up_same, up_other _ _ (fun e => hne e.symm)]
      exact (apart_new (h.own k hk) (h.ap k i hk hi (fun e => hne e.symm)) hat).symm
    · by_cases ck : k = j
      · subst ck
        rw [up_same, up_other _ _ ci]
        exact apart_new (h.own i hi) (h.ap i k hi hk hne) hat
      · rw [up_other _ _ ci, up_other _ _ ck]
        exact h.ap i k hi hk hne
theorem Beg.congr (h : Beg w b B px room vs n xs) (hn : ∀ j, j < 7 → n j = n' j) (hx : ∀ j, j < 7 → xs j = xs' j) : Beg w b B px room vs n' xs' :=
  ⟨h.lt, h.row, fun j hj => by rw [← hn j hj, ← hx j hj]; exact h.own j hj, h.ap⟩
theorem Beg.below (h : Beg w b B px room vs n xs) (hb : Below w.heap.size w w2) : Beg w2 b B px room vs n xs :=
  ⟨h.lt, World.rowIs.of_block h.row (hb.block b (World.rowIs.lt h.row)), fun j hj => own_below (h.own j hj) hb, h.ap⟩
/-- What the making changes: the struct alone. -/
theorem chg_app (h : ChgF (fun k => k = b) W w) (hB : B = W.heap.size) {v : Value} (hv : ∀ k, v.ownBlock = some k → B ≤ k) (hg : (w.alloc o).grownBy w2 v.ownBlock) (i : Nat) : ChgF (fun k => k = b) W (w2.setCell ⟨b, i, none⟩ v') := by
  have h1 := h.size
  have b1 : Below B w w2 := ((Below.refl B w).alloc (by omega) o).grown hg (by simp; omega) hv
  have c1 : ChgF (fun k => k = b) W w2 := ⟨b1.os.trans h.os, b1.tape.trans h.tape, b1.output.trans h.output, Nat.le_trans h1 b1.size, fun k hk hn => (b1.block k (by omega)).trans (h.block k hk hn)⟩
  exact c1.setG (a := ⟨b, i, none⟩) rfl v'
theorem chg_bel (h : ChgF (fun k => k = b) W w) (hb : Below w.heap.size w w2) : ChgF (fun k => k = b) W w2 := h.trans (F' := fun _ => False) (ChgF.ofBelow hb) (fun _ _ q => q.elim)
end
section
variable (fls : Nat → ByteArray) (i f d k : Nat)
theorem bN_0 : ∀ j, j < 7 → up (bN i f d k) 0 (bN i f d k 0 + 1) j = bN (i + 1) f d k j := by
  intro j hj; have q : j = 0 ∨ j = 1 ∨ j = 2 ∨ j = 3 ∨ j = 4 ∨ j = 5 ∨ j = 6 := by omega
  rcases q with rfl | rfl | rfl | rfl | rfl | rfl | rfl <;> rfl
theorem bN_1 : ∀ j, j < 7 → up (bN i f d k) 1 (bN i f d k 1 + 1) j = bN i (f + 1) d k j := by
  intro j hj; have q : j = 0 ∨ j = 1 ∨ j = 2 ∨ j = 3 ∨ j = 4 ∨ j = 5 ∨ j = 6 := by omega
  rcases q with rfl | rfl | rfl | rfl | rfl | rfl | rfl <;> rfl
theorem bN_2 : ∀ j, j < 7 → up (bN i f d k) 2 (bN i f d k 2 + 1) j = bN i f (d + 1) k j := by
  intro j hj; have q : j = 0 ∨ j = 1 ∨ j = 2 ∨ j = 3 ∨ j = 4 ∨ j = 5 ∨ j = 6 := by omega
  rcases q with rfl | rfl | rfl | rfl | rfl | rfl | rfl <;> rfl
theorem bX_0 : ∀ j, j < 7 → up (bX fls i f d k) 0 (bX fls i f d k 0 ++ [.int .i64 ((idK i : Nat) : Int)]) j = bX fls (i + 1) f d k j := by
  intro j hj; have q : j = 0 ∨ j = 1 ∨ j = 2 ∨ j = 3 ∨ j = 4 ∨ j = 5 ∨ j = 6 := by omega
  rcases q with rfl | rfl | rfl | rfl | rfl | rfl | rfl <;> first | rfl | exact range_app (fun t => Value.int .i64 ((idK t : Nat) : Int)) i
theorem bX_1 : ∀ j, j < 7 → up (bX fls i f d k) 1 (bX fls i f d k 1 ++ [.string (fls f)]) j = bX fls i (f + 1) d k j := by
  intro j hj; have q : j = 0 ∨ j = 1 ∨ j = 2 ∨ j = 3 ∨ j = 4 ∨ j = 5 ∨ j = 6 := by omega
  rcases q with rfl | rfl | rfl | rfl | rfl | rfl | rfl <;> first | rfl | exact range_app (fun t => Value.string (fls t)) f
theorem bX_2 : ∀ j, j < 7 → up (bX fls i f d k) 2 (bX fls i f d k 2 ++ [.string ⟨#[]⟩]) j = bX fls i f (d + 1) k j := by
  intro j hj; have q : j = 0 ∨ j = 1 ∨ j = 2 ∨ j = 3 ∨ j = 4 ∨ j = 5 ∨ j = 6 := by omega
  rcases q with rfl | rfl | rfl | rfl | rfl | rfl | rfl <;> first | rfl | exact range_app (fun _ => Value.string ⟨#[]⟩) d
end
theorem seven {P : Nat → Prop} (h0 : P 0) (h1 : P 1) (h2 : P 2) (h3 : P 3) (h4 : P 4) (h5 : P 5) (h6 : P 6) : ∀ j, j < 7 → P j := by
  intro j hj; have q : j = 0 ∨ j = 1 ∨ j = 2 ∨ j = 3 ∨ j = 4 ∨ j = 5 ∨ j = 6 := by omega
  rcases q with rfl | rfl | rfl | rfl | rfl | rfl | rfl <;> assumption
/-- Keeps' world is made. -/
theorem Beg.done {w W : World} {b B x : Nat} {room : Int} {F : Nat → Prop} {fls : Nat → ByteArray} {vs : Nat → Value} (h : Beg w b B (.pointer (some ⟨x, 0, none⟩)) room vs (bN 4 8 4 5) (bX fls 4 8 4 5)) (hB : B = W.heap.size) (hC : ChgF (fun k => k = b) W w) (hp : PS W x F room []) (hF : ∀ k, F k → b + 1 ≤ k) (hfl : ∀ f, f < 8 → pOk (fls f) ∧ num (fls f) 3 2 = idK (f / 2)) :
    ∃ g c, KSt w b b x room g c F [] fls (fun _ => ⟨#[]⟩) (fun _ => ⟨#[]⟩) (fun _ => ⟨#[]⟩) (fun _ => false) (fun _ => 0) := by
  have hn : ∀ j, j < 7 → bN 4 8 4 5 j = nK j := seven rfl rfl rfl rfl rfl rfl rfl
  have hv : ∀ j, j < 7 → ∃ g c, vs j = .slice (some ⟨g, 0, none⟩) (nK j) c := fun j hj => by
    have q := own_frm (h.own j hj) (by rw [hn j hj]; unfold nK; split <;> (try omega); split <;> omega)
    rw [hn j hj] at q
    exact q
  obtain ⟨g, hg⟩ : ∃ g : Nat → Nat, ∀ j, j < 7 → ∃ c, vs j = .slice (some ⟨g j, 0, none⟩) (nK j) c :=
    ⟨fun j => if hj : j < 7 then (hv j hj).choose else 0, fun j hj => by show _; simp only [dif_pos hj]; exact (hv j hj).choose_spec⟩
  obtain ⟨c, hc⟩ : ∃ c : Nat → Nat, ∀ j, j < 7 → vs j = .slice (some ⟨g j, 0, none⟩) (nK j) (c j) :=
    ⟨fun j => if hj : j < 7 then (hg j hj).choose else 0, fun j hj => by show _; simp only [dif_pos hj]; exact (hg j hj).choose_spec⟩
  have ho : ∀ j, j < 7 → w.ownsRow B (eK j) 1 (.slice (some ⟨g j, 0, none⟩) (nK j) (c j)) (nK j) (bX fls 4 8 4 5 j) := fun j hj => by
    have q := h.own j hj
    rw [hc j hj, hn j hj] at q
    exact q
  have hl := h.lt
  have hz := World.rowIs.lt h.row
  have hgl : ∀ j, j < 7 → B ≤ g j ∧ g j < w.heap.size := fun j hj => (ho j hj).lt (g j) rfl
  have hcl : ∀ j, j < 7 → ∀ i, i < nK j → w.cell? ⟨g j, i, none⟩ = (bX fls 4 8 4 5 j)[i]? := fun j hj i hi => World.ownsRow.cellAt (ho j hj) i (by omega)
  refine ⟨g, c, hp.kept hC.size (fun k q => hC.block k (hp.lt k q) (fun e => by have := hF k q; omega)), ?_, ?_, by omega⟩
  · refine ⟨hz, fun j hj => (hgl j hj).2, fun j hj => by have := (hgl j hj).1; omega, fun i j hi hj hne e => ?_, fun j hj q => ?_, fun q => ?_, Nat.le_refl _, fun j hj => by have := (hgl j hj).1; omega, fun k q => by have := hF k q; omega,
      World.rowIs.cell h.row (i := 0) (by omega), World.rowIs.cell h.row (i := 1) (by omega), fun j hj => ?_, fun i hi => ?_, fun i hi => ?_, fun i hi => ?_, fun i hi => ?_, fun i hi => ?_, fun i hi => ?_, fun i hi => ?_, fun j hj i => World.ownsRow.frozenAt (ho j hj) i⟩
    · have q := h.ap i j hi hj hne
      rw [hc i hi, hc j hj] at q
      rcases q with q | q
      · simp [Value.ownBlock] at q
      · exact q (by show some (g i) = some (g j); rw [e])
    · have := hp.lt _ q
      have := (hgl j hj).1
      omega
    · have := hF _ q; omega
    · rw [World.rowIs.cell h.row (i := 2 + j) (by omega), ← hc j hj]
      unfold bRow
      rw [if_neg (by omega), if_neg (by omega), show 2 + j - 2 = j from by omega]
    · rw [hcl 0 (by omega) i hi]; exact range_get (fun t => Value.int .i64 ((idK t : Nat) : Int)) _ _ hi
    · rw [hcl 1 (by omega) i hi]; exact range_get (fun t => Value.string (fls t)) _ _ hi
    · rw [hcl 2 (by omega) i hi]; exact range_get (fun _ => Value.string ⟨#[]⟩) _ _ hi
    · rw [hcl 3 (by omega) i hi]; exact range_get (fun _ => Value.bool false) _ _ hi
    · rw [hcl 4 (by omega) i hi]; exact range_get (fun _ => Value.string ⟨#[]⟩) _ _ hi
    · rw [hcl 5 (by omega) i hi]; exact range_get (fun _ => Value.int .i64 0) _ _ hi
    · rw [hcl 6 (by omega) i hi]; exact range_get (fun _ => Value.string ⟨#[]⟩) _ _ hi
  · exact ⟨LogOk.nil, hfl, fun _ _ => rfl, by decide, fun _ _ _ => rfl, fun _ _ q => by simp at q, fun _ q => absurd rfl q⟩
end Go.Proofs.Ytnconbpneimjiaa

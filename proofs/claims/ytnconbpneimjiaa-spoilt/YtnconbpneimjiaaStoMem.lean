/-
  P13 to P15: the program's store in memory: its block, the row of its files, the row of its spots.
-/
import Derived.Test.YtnconbpneimjiaaShfMath
import Derived.Test.YtnconbpneimjiaaBndMath
import Derived.Test.YtnconbpneimjiaaEncWalk
import Derived.Test.YtnconbpneimjiaaOwnBel
import Derived.Maps.AppendAt
import Derived.Deep.MidRow
namespace Go.Proofs.Ytnconbpneimjiaa
open Go.RowKit Go.PlainAid

/-- The cells of n things of four cells each. -/
def cells4 (f : Nat → Nat → Value) (n : Nat) : List Value := (List.range (n * 4)).map (fun q => f (q / 4) (q % 4))
theorem cells4_len (f : Nat → Nat → Value) (n : Nat) : (cells4 f n).length = n * 4 := by simp [cells4]
theorem cells4_get (f : Nat → Nat → Value) (n k j : Nat) (hk : k < n) (hj : j < 4) : (cells4 f n)[k * 4 + j]? = some (f k j) := by
  unfold cells4
  rw [List.getElem?_map, List.getElem?_range (by omega)]
  show some (f ((k * 4 + j) / 4) ((k * 4 + j) % 4)) = _
  rw [show (k * 4 + j) / 4 = k from by omega, show (k * 4 + j) % 4 = j from by omega]
theorem cells4_at (f : Nat → Nat → Value) (n q : Nat) (hq : q < n * 4) : (cells4 f n)[q]? = some (f (q / 4) (q % 4)) := by
  unfold cells4
  rw [List.getElem?_map, List.getElem?_range hq]; rfl
theorem cells4_of {xs : List Value} {f : Nat → Nat → Value} {n : Nat} (hl : xs.length = n * 4) (h : ∀ q, q < n * 4 → xs[q]? = some (f (q / 4) (q % 4))) : xs = cells4 f n := by
  apply List.ext_getElem?
  intro q
  rcases Nat.lt_or_ge q (n * 4) with c | c
  · rw [h q c, cells4_at f n q c]
  · rw [List.getElem?_eq_none (by omega), List.getElem?_eq_none (by rw [cells4_len]; omega)]
theorem cells4_snoc (f g : Nat → Nat → Value) (n : Nat) (hg : ∀ k j, k < n → j < 4 → g k j = f k j) : cells4 f n ++ [g n 0, g n 1, g n 2, g n 3] = cells4 g (n + 1) := by
  refine cells4_of (by simp [cells4_len]; omega) (fun q hq => ?_)
  rcases Nat.lt_or_ge q (n * 4) with c | c
  · rw [List.getElem?_append_left (by rw [cells4_len]; omega), cells4_at f n q c, hg _ _ (by omega) (by omega)]
  · rw [List.getElem?_append_right (by rw [cells4_len]; omega), cells4_len]
    have hq4 : q = n * 4 + 0 ∨ q = n * 4 + 1 ∨ q = n * 4 + 2 ∨ q = n * 4 + 3 := by omega
    rcases hq4 with e | e | e | e
    · rw [show q - n * 4 = 0 from by omega, show q / 4 = n from by omega, show q % 4 = 0 from by omega]; rfl
    · rw [show q - n * 4 = 1 from by omega, show q / 4 = n from by omega, show q % 4 = 1 from by omega]; rfl
    · rw [show q - n * 4 = 2 from by omega, show q / 4 = n from by omega, show q % 4 = 2 from by omega]; rfl
    · rw [show q - n * 4 = 3 from by omega, show q / 4 = n from by omega, show q % 4 = 3 from by omega]; rfl
theorem cells4_set (f g : Nat → Nat → Value) (n k j : Nat) (u : Value) (hj : j < 4) (hg : ∀ a b, a < n → b < 4 → g a b = if a = k ∧ b = j then u else f a b) : (cells4 f n).set (k * 4 + j) u = cells4 g n := by
  refine cells4_of (by simp [cells4_len]) (fun q hq => ?_)
  rw [List.getElem?_set, hg _ _ (by omega) (by omega)]
  by_cases c : k * 4 + j = q
  · rw [if_pos c, if_pos (by rw [cells4_len]; omega), if_pos ⟨by omega, by omega⟩]
  · rw [if_neg c, if_neg (by omega), cells4_at f n q hq]
theorem cells4_congr {f g : Nat → Nat → Value} {n : Nat} (h : ∀ a b, a < n → b < 4 → g a b = f a b) : cells4 f n = cells4 g n :=
  cells4_of (cells4_len _ _) (fun q hq => by rw [cells4_at f n q hq, h _ _ (by omega) (by omega)])

/-- A spot's cells; a file's. -/
def spV (s : Spt) (j : Nat) : Value := if j = 0 then .string s.ky else if j = 1 then .string s.tx else if j = 2 then .int .i64 (s.b0 : Int) else .int .i64 (s.b1 : Int)
def flV (f : ByteArray) (j : Nat) : Value := fRow (num f 3 2 : Int) (pAns f).2.1 (pAns f).2.2.1 (wSum (f.extract 0 (pE f)) : Nat) j
def spVs (sp : Nat → Spt) (i j : Nat) : Value := spV (sp i) j
def flVs (fl : Nat → ByteArray) (i j : Nat) : Value := flV (fl i) j
/-- A store's cells. -/
def pRow (room : Int) (vb vs : Value) (j : Nat) : Value := if j = 0 then .int .i64 room else if j = 1 then vb else vs
/-- The program's store, in memory. -/
structure PMm (w : World) (p B : Nat) (room : Int) (vb vs : Value) (fl : Nat → ByteArray) (m : Nat) (sp : Nat → Spt) (n : Nat) : Prop where
  row : w.rowIs p 59 3 (pRow room vb vs)
  lo : p < B
  bd : w.ownsRow B 48 4 vb m (cells4 (flVs fl) m)
  sh : w.ownsRow B 109 4 vs n (cells4 (spVs sp) n)
section
variable {w w2 : World} {p B : Nat} {room : Int} {vb vs : Value} {fl : Nat → ByteArray} {m : Nat} {sp : Nat → Spt} {n : Nat}
theorem PMm.lt (h : PMm w p B room vb vs fl m sp n) : p < w.heap.size := World.rowIs.lt h.row
theorem PMm.c0 (h : PMm w p B room vb vs fl m sp n) : w.cell? ⟨p, 0, none⟩ = some (.int .i64 room) := World.rowIs.cell h.row (i := 0) (by omega)
theorem PMm.c1 (h : PMm w p B room vb vs fl m sp n) : w.cell? ⟨p, 1, none⟩ = some vb := World.rowIs.cell h.row (i := 1) (by omega)
theorem PMm.c2 (h : PMm w p B room vb vs fl m sp n) : w.cell? ⟨p, 2, none⟩ = some vs := World.rowIs.cell h.row (i := 2) (by omega)
theorem own_max {w : World} {base e size n : Nat} {v : Value} {xs : List Value} (h : w.ownsRow base e size v n xs) : n ≤ maxLen := by
  rcases h.2 with ⟨_, h0⟩ | ⟨g, cap, cur, _, _, _, h1, h2, _⟩
  · omega
  · omega
/-- The row of files as a slice: its length, its cells. -/
theorem PMm.files (h : PMm w p B room vb vs fl m sp n) : ∃ ao cap, vb = .slice ao m cap ∧ ∀ k, k < m → ∃ g, ao = some ⟨g, 0, none⟩ ∧ B ≤ g ∧ g < w.heap.size ∧ ∀ j, j < 4 → w.cell? ⟨g, k * 4 + j, none⟩ = some (flV (fl k) j) ∧ w.frozen? ⟨g, k * 4 + j, none⟩ = false := by
  have hlt := h.bd.lt
  have hb := h.bd
  rcases h.bd.2 with ⟨e, h0⟩ | ⟨g, cap, cur, e, hg, hgb, _⟩
  · exact ⟨none, 0, by rw [e, h0], fun k hk => by omega⟩
  · rw [e] at hb hlt
    refine ⟨some ⟨g, 0, none⟩, cap, e, fun k hk => ⟨g, rfl, hg, (hlt g rfl).2, fun j hj => ⟨?_, ?_⟩⟩⟩
    · rw [World.ownsRow.cellAt hb (k * 4 + j) (by omega), cells4_get _ _ _ _ hk hj]; rfl
    · exact World.ownsRow.frozenAt hb (k * 4 + j)
/-- The row of spots as a slice: its length, its cells. -/
theorem PMm.spots (h : PMm w p B room vb vs fl m sp n) : ∃ ao cap, vs = .slice ao n cap ∧ ∀ k, k < n → ∃ g, ao = some ⟨g, 0, none⟩ ∧ B ≤ g ∧ g < w.heap.size ∧ ∀ j, j < 4 → w.cell? ⟨g, k * 4 + j, none⟩ = some (spV (sp k) j) ∧ w.frozen? ⟨g, k * 4 + j, none⟩ = false := by
  have hlt := h.sh.lt
  have hb := h.sh
  rcases h.sh.2 with ⟨e, h0⟩ | ⟨g, cap, cur, e, hg, hgb, _⟩
  · exact ⟨none, 0, by rw [e, h0], fun k hk => by omega⟩
  · rw [e] at hb hlt
    refine ⟨some ⟨g, 0, none⟩, cap, e, fun k hk => ⟨g, rfl, hg, (hlt g rfl).2, fun j hj => ⟨?_, ?_⟩⟩⟩
    · rw [World.ownsRow.cellAt hb (k * 4 + j) (by omega), cells4_get _ _ _ _ hk hj]; rfl
    · exact World.ownsRow.frozenAt hb (k * 4 + j)
/-- A store stays while its blocks do. -/
theorem PMm.kept (h : PMm w p B room vb vs fl m sp n) (hk : ∀ k, k = p ∨ vb.ownBlock = some k ∨ vs.ownBlock = some k → w2.heap[k]? = w.heap[k]?) : PMm w2 p B room vb vs fl m sp n := by
  refine ⟨World.rowIs.of_block h.row (hk p (.inl rfl)), h.lo, ⟨h.bd.1, ?_⟩, ⟨h.sh.1, ?_⟩⟩
  · rcases h.bd.2 with hn | ⟨g, cap, cur, rfl, hb, hg, r⟩
    · exact .inl hn
    · exact .inr ⟨g, cap, cur, rfl, hb, by rw [hk g (.inr (.inl rfl))]; exact hg, r⟩
  · rcases h.sh.2 with hn | ⟨g, cap, cur, rfl, hb, hg, r⟩
    · exact .inl hn
    · exact .inr ⟨g, cap, cur, rfl, hb, by rw [hk g (.inr (.inr rfl))]; exact hg, r⟩
theorem PMm.below (h : PMm w p B room vb vs fl m sp n) (hb : Below w.heap.size w w2) : PMm w2 p B room vb vs fl m sp n := by
  refine h.kept (fun k hk => hb.block k ?_)
  rcases hk with rfl | q | q
  · exact h.lt
  · exact (h.bd.lt k q).2
  · exact (h.sh.lt k q).2
theorem PMm.drew (h : PMm w p B room vb vs fl m sp n) (q : Nat) : PMm (w.drewN q) p B room vb vs fl m sp n := ⟨h.row, h.lo, h.bd, h.sh⟩
theorem PMm.alloc (h : PMm w p B room vb vs fl m sp n) (o : Obj) : PMm (w.alloc o) p B room vb vs fl m sp n := h.below ((Below.refl _ _).alloc (Nat.le_refl _) o)
theorem PMm.apart (h : PMm w p B room vb vs fl m sp n) : vb.ownBlock = none ∨ vb.ownBlock ≠ vs.ownBlock := own_apart h.bd h.sh (by decide)
theorem PMm.apart' (h : PMm w p B room vb vs fl m sp n) : vs.ownBlock = none ∨ vs.ownBlock ≠ vb.ownBlock := own_apart h.sh h.bd (by decide)
theorem PMm.nb (h : PMm w p B room vb vs fl m sp n) : vb.ownBlock ≠ some p := fun q => by have := (h.bd.lt p q).1; have := h.lo; omega
theorem PMm.ns (h : PMm w p B room vb vs fl m sp n) : vs.ownBlock ≠ some p := fun q => by have := (h.sh.lt p q).1; have := h.lo; omega
/-- Another row of files is laid into the store. -/
theorem PMm.setB {vb' : Value} {fl' : Nat → ByteArray} {m' : Nat} (h : PMm w p B room vb vs fl m sp n) (hb : w.ownsRow B 48 4 vb' m' (cells4 (flVs fl') m')) : PMm (w.setCell ⟨p, 1, none⟩ vb') p B room vb' vs fl' m' sp n :=
  ⟨World.rowIs.congr (World.rowIs.set h.row 1 vb') (fun i hi => by match i, hi with | 0, _ => rfl | 1, _ => rfl | 2, _ => rfl), h.lo, ownsRow_setCell_below hb (a := ⟨p, 1, none⟩) h.lo vb', ownsRow_setCell_below h.sh (a := ⟨p, 1, none⟩) h.lo vb'⟩
theorem PMm.setS {vs' : Value} {sp' : Nat → Spt} {n' : Nat} (h : PMm w p B room vb vs fl m sp n) (hb : w.ownsRow B 109 4 vs' n' (cells4 (spVs sp') n')) : PMm (w.setCell ⟨p, 2, none⟩ vs') p B room vb vs' fl m sp' n' :=
  ⟨World.rowIs.congr (World.rowIs.set h.row 2 vs') (fun i hi => by match i, hi with | 0, _ => rfl | 1, _ => rfl | 2, _ => rfl), h.lo, ownsRow_setCell_below h.bd (a := ⟨p, 2, none⟩) h.lo vs', ownsRow_setCell_below hb (a := ⟨p, 2, none⟩) h.lo vs'⟩
/-- Behind an append to one of the rows: the store is as it was, but for that row. -/
theorem PMm.grownB {o : Obj} (h : PMm w p B room vb vs fl m sp n) (hg : (w.alloc o).grownBy w2 vb.ownBlock) : w2.rowIs p 59 3 (pRow room vb vs) ∧ w2.ownsRow B 109 4 vs n (cells4 (spVs sp) n) := by
  have hl := h.lt
  refine ⟨World.rowIs.of_block (World.rowIs.alloc h.row o) (hg.block p (by simp; omega) (fun q => h.nb q.symm)), (h.sh.alloc o).kept hg h.apart'⟩
theorem PMm.grownS {o : Obj} (h : PMm w p B room vb vs fl m sp n) (hg : (w.alloc o).grownBy w2 vs.ownBlock) : w2.rowIs p 59 3 (pRow room vb vs) ∧ w2.ownsRow B 48 4 vb m (cells4 (flVs fl) m) := by
  have hl := h.lt
  refine ⟨World.rowIs.of_block (World.rowIs.alloc h.row o) (hg.block p (by simp; omega) (fun q => h.ns q.symm)), (h.bd.alloc o).kept hg h.apart⟩
end
end Go.Proofs.Ytnconbpneimjiaa

/-
  P13 to P15: the program's store in memory: its block, the row of its files, the row of its spots.
  P13 to P15: the walks that look into the program's store: shelves.bitAt, Shelf.find, Bindings.find, Look, Of.
  P13 to P15: the walks of Shelf.Look, Bindings.Of.
-/
import Derived.Test.YtnconbpneimjiaaStoMath
import Derived.Test.YtnconbpneimjiaaEncWalk
import Derived.Test.YtnconbpneimjiaaOwnBel
import Derived.Maps.AppendAt
import Derived.Deep.MidRow
import Derived.BigQuiet
/-! ###  P13 to P15: the program's store in memory: its block, the row of its files, the row of its spots. -/
namespace Go.Proofs.Ytnconbpneimjiaa
open Go.RowKit Go.PlainAid

/-- The cells of n things of four cells each. -/
def cells4 (f : Nat → Nat → Value) (n : Nat) : List Value := (List.range (n * 4)).map (fun q => f (q / 4) (q % 4))
theorem cells4_len (f : Nat → Nat → Value) (n : Nat) : (cells4 f n).length = n * 4 := by simp [cells4]
theorem cells4_get (f : Nat → Nat → Value) (n k j : Nat) (hk : k < n) (hj : j < 4) : (cells4 f n)[k * 4 + j]? = some (f k j) := by
  unfold cells4
  rw [List.getElem?_map, List.getElem?_range (by omega)]
  show some (f ((k * 4 + j) / 4) ((k * 4 + j) % 4)) = _
  rw [show (k * 4 + j) / 4 = k from by omega, show (k * 4 + j) % 4 = j from by omega]
theorem cells4_at (f : Nat → Nat → Value) (n q : Nat) (hq : q < n * 4) : (cells4 f n)[q]? = some (f (q / 4) (q % 4)) := by
  unfold cells4
  rw [List.getElem?_map, List.getElem?_range hq]; rfl
theorem cells4_of {xs : List Value} {f : Nat → Nat → Value} {n : Nat} (hl : xs.length = n * 4) (h : ∀ q, q < n * 4 → xs[q]? = some (f (q / 4) (q % 4))) : xs = cells4 f n := by
  apply List.ext_getElem?
  intro q
  rcases Nat.lt_or_ge q (n * 4) with c | c
  · rw [h q c, cells4_at f n q c]
  · rw [List.getElem?_eq_none (by omega), List.getElem?_eq_none (by rw [cells4_len]; omega)]
theorem cells4_snoc (f g : Nat → Nat → Value) (n : Nat) (hg : ∀ k j, k < n → j < 4 → g k j = f k j) : cells4 f n ++ [g n 0, g n 1, g n 2, g n 3] = cells4 g (n + 1) := by
  refine cells4_of (by simp [cells4_len]; omega) (fun q hq => ?_)
  rcases Nat.lt_or_ge q (n * 4) with c | c
  · rw [List.getElem?_append_left (by rw [cells4_len]; omega), cells4_at f n q c, hg _ _ (by omega) (by omega)]
  · rw [List.getElem?_append_right (by rw [cells4_len]; omega), cells4_len]
    have hq4 : q = n * 4 + 0 ∨ q = n * 4 + 1 ∨ q = n * 4 + 2 ∨ q = n * 4 + 3 := by omega
    rcases hq4 with e | e | e | e
    · rw [show q - n * 4 = 0 from by omega, show q / 4 = n from by omega, show q % 4 = 0 from by omega]; rfl
    · rw [show q - n * 4 = 1 from by omega, show q / 4 = n from by omega, show q % 4 = 1 from by omega]; rfl
    · rw [show q - n * 4 = 2 from by omega, show q / 4 = n from by omega, show q % 4 = 2 from by omega]; rfl
    · rw [show q - n * 4 = 3 from by omega, show q / 4 = n from by omega, show q % 4 = 3 from by omega]; rfl
theorem cells4_set (f g : Nat → Nat → Value) (n k j : Nat) (u : Value) (hj : j < 4) (hg : ∀ a b, a < n → b < 4 → g a b = if a = k ∧ b = j then u else f a b) : (cells4 f n).set (k * 4 + j) u = cells4 g n := by
  refine cells4_of (by simp [cells4_len]) (fun q hq => ?_)
  rw [List.getElem?_set, hg _ _ (by omega) (by omega)]
  by_cases c : k * 4 + j = q
  · rw [if_pos c, if_pos (by rw [cells4_len]; omega), if_pos ⟨by omega, by omega⟩]
  · rw [if_neg c, if_neg (by omega), cells4_at f n q hq]
theorem cells4_congr {f g : Nat → Nat → Value} {n : Nat} (h : ∀ a b, a < n → b < 4 → g a b = f a b) : cells4 f n = cells4 g n :=
  cells4_of (cells4_len _ _) (fun q hq => by rw [cells4_at f n q hq, h _ _ (by omega) (by omega)])

/-- A spot's cells; a file's. -/
def spV (s : Spt) (j : Nat) : Value := if j = 0 then .string s.ky else if j = 1 then .string s.tx else if j = 2 then .int .i64 (s.b0 : Int) else .int .i64 (s.b1 : Int)
def flV (f : ByteArray) (j : Nat) : Value := fRow (num f 3 2 : Int) (pAns f).2.1 (pAns f).2.2.1 (wSum (f.extract 0 (pE f)) : Nat) j
def spVs (sp : Nat → Spt) (i j : Nat) : Value := spV (sp i) j
def flVs (fl : Nat → ByteArray) (i j : Nat) : Value := flV (fl i) j
/-- A store's cells. -/
def psRow (room : Int) (vb vs : Value) (j : Nat) : Value := if j = 0 then .int .i64 room else if j = 1 then vb else vs
/-- The program's store, in memory. -/
structure PMm (w : World) (p B : Nat) (room : Int) (vb vs : Value) (fl : Nat → ByteArray) (m : Nat) (sp : Nat → Spt) (n : Nat) : Prop where
  row : w.rowIs p 59 3 (psRow room vb vs)
  lo : p < B
  bd : w.ownsRow B 48 4 vb m (cells4 (flVs fl) m)
  sh : w.ownsRow B 109 4 vs n (cells4 (spVs sp) n)
section
variable {w w2 : World} {p B : Nat} {room : Int} {vb vs : Value} {fl : Nat → ByteArray} {m : Nat} {sp : Nat → Spt} {n : Nat}
theorem PMm.lt (h : PMm w p B room vb vs fl m sp n) : p < w.heap.size := World.rowIs.lt h.row
theorem PMm.c0 (h : PMm w p B room vb vs fl m sp n) : w.cell? ⟨p, 0, none⟩ = some (.int .i64 room) := World.rowIs.cell h.row (i := 0) (by omega)
theorem PMm.c1 (h : PMm w p B room vb vs fl m sp n) : w.cell? ⟨p, 1, none⟩ = some vb := World.rowIs.cell h.row (i := 1) (by omega)
theorem PMm.c2 (h : PMm w p B room vb vs fl m sp n) : w.cell? ⟨p, 2, none⟩ = some vs := World.rowIs.cell h.row (i := 2) (by omega)
theorem own_max {w : World} {base e size n : Nat} {v : Value} {xs : List Value} (h : w.ownsRow base e size v n xs) : n ≤ maxLen := by
  rcases h.2 with ⟨_, h0⟩ | ⟨g, cap, cur, _, _, _, h1, h2, _⟩
  · omega
  · omega
/-- The row of files as a slice: its length, its cells. -/
theorem PMm.files (h : PMm w p B room vb vs fl m sp n) : ∃ ao cap, vb = .slice ao m cap ∧ ∀ k, k < m → ∃ g, ao = some ⟨g, 0, none⟩ ∧ B ≤ g ∧ g < w.heap.size ∧ ∀ j, j < 4 → w.cell? ⟨g, k * 4 + j, none⟩ = some (flV (fl k) j) ∧ w.frozen? ⟨g, k * 4 + j, none⟩ = false := by
  have hlt := h.bd.lt
  have hb := h.bd
  rcases h.bd.2 with ⟨e, h0⟩ | ⟨g, cap, cur, e, hg, hgb, _⟩
  · exact ⟨none, 0, by rw [e, h0], fun k hk => by omega⟩
  · rw [e] at hb hlt
    refine ⟨some ⟨g, 0, none⟩, cap, e, fun k hk => ⟨g, rfl, hg, (hlt g rfl).2, fun j hj => ⟨?_, ?_⟩⟩⟩
    · rw [World.ownsRow.cellAt hb (k * 4 + j) (by omega), cells4_get _ _ _ _ hk hj]; rfl
    · exact World.ownsRow.frozenAt hb (k * 4 + j)
/-- The row of spots as a slice: its length, its cells. -/
theorem PMm.spots (h : PMm w p B room vb vs fl m sp n) : ∃ ao cap, vs = .slice ao n cap ∧ ∀ k, k < n → ∃ g, ao = some ⟨g, 0, none⟩ ∧ B ≤ g ∧ g < w.heap.size ∧ ∀ j, j < 4 → w.cell? ⟨g, k * 4 + j, none⟩ = some (spV (sp k) j) ∧ w.frozen? ⟨g, k * 4 + j, none⟩ = false := by
  have hlt := h.sh.lt
  have hb := h.sh
  rcases h.sh.2 with ⟨e, h0⟩ | ⟨g, cap, cur, e, hg, hgb, _⟩
  · exact ⟨none, 0, by rw [e, h0], fun k hk => by omega⟩
  · rw [e] at hb hlt
    refine ⟨some ⟨g, 0, none⟩, cap, e, fun k hk => ⟨g, rfl, hg, (hlt g rfl).2, fun j hj => ⟨?_, ?_⟩⟩⟩
    · rw [World.ownsRow.cellAt hb (k * 4 + j) (by omega), cells4_get _ _ _ _ hk hj]; rfl
    · exact World.ownsRow.frozenAt hb (k * 4 + j)
/-- A store stays while its blocks do. -/
theorem PMm.kept (h : PMm w p B room vb vs fl m sp n) (hk : ∀ k, k = p ∨ vb.ownBlock = some k ∨ vs.ownBlock = some k → w2.heap[k]? = w.heap[k]?) : PMm w2 p B room vb vs fl m sp n := by
  refine ⟨World.rowIs.of_block h.row (hk p (.inl rfl)), h.lo, ⟨h.bd.1, ?_⟩, ⟨h.sh.1, ?_⟩⟩
  · rcases h.bd.2 with hn | ⟨g, cap, cur, rfl, hb, hg, r⟩
    · exact .inl hn
    · exact .inr ⟨g, cap, cur, rfl, hb, by rw [hk g (.inr (.inl rfl))]; exact hg, r⟩
  · rcases h.sh.2 with hn | ⟨g, cap, cur, rfl, hb, hg, r⟩
    · exact .inl hn
    · exact .inr ⟨g, cap, cur, rfl, hb, by rw [hk g (.inr (.inr rfl))]; exact hg, r⟩
theorem PMm.below (h : PMm w p B room vb vs fl m sp n) (hb : Below w.heap.size w w2) : PMm w2 p B room vb vs fl m sp n := by
  refine h.kept (fun k hk => hb.block k ?_)
  rcases hk with rfl | q | q
  · exact h.lt
  · exact (h.bd.lt k q).2
  · exact (h.sh.lt k q).2
theorem PMm.drew (h : PMm w p B room vb vs fl m sp n) (q : Nat) : PMm (w.drewN q) p B room vb vs fl m sp n := ⟨h.row, h.lo, h.bd, h.sh⟩
theorem PMm.alloc (h : PMm w p B room vb vs fl m sp n) (o : Obj) : PMm (w.alloc o) p B room vb vs fl m sp n := h.below ((Below.refl _ _).alloc (Nat.le_refl _) o)
theorem PMm.apart (h : PMm w p B room vb vs fl m sp n) : vb.ownBlock = none ∨ vb.ownBlock ≠ vs.ownBlock := own_apart h.bd h.sh (by decide)
theorem PMm.apart' (h : PMm w p B room vb vs fl m sp n) : vs.ownBlock = none ∨ vs.ownBlock ≠ vb.ownBlock := own_apart h.sh h.bd (by decide)
theorem PMm.nb (h : PMm w p B room vb vs fl m sp n) : vb.ownBlock ≠ some p := fun q => by have := (h.bd.lt p q).1; have := h.lo; omega
theorem PMm.ns (h : PMm w p B room vb vs fl m sp n) : vs.ownBlock ≠ some p := fun q => by have := (h.sh.lt p q).1; have := h.lo; omega
/-- Another row of files is laid into the store. -/
theorem PMm.setB {vb' : Value} {fl' : Nat → ByteArray} {m' : Nat} (h : PMm w p B room vb vs fl m sp n) (hb : w.ownsRow B 48 4 vb' m' (cells4 (flVs fl') m')) : PMm (w.setCell ⟨p, 1, none⟩ vb') p B room vb' vs fl' m' sp n :=
  ⟨World.rowIs.congr (World.rowIs.set h.row 1 vb') (fun i hi => by match i, hi with | 0, _ => rfl | 1, _ => rfl | 2, _ => rfl), h.lo, ownsRow_setCell_below hb (a := ⟨p, 1, none⟩) h.lo vb', ownsRow_setCell_below h.sh (a := ⟨p, 1, none⟩) h.lo vb'⟩
theorem PMm.setS {vs' : Value} {sp' : Nat → Spt} {n' : Nat} (h : PMm w p B room vb vs fl m sp n) (hb : w.ownsRow B 109 4 vs' n' (cells4 (spVs sp') n')) : PMm (w.setCell ⟨p, 2, none⟩ vs') p B room vb vs' fl m sp' n' :=
  ⟨World.rowIs.congr (World.rowIs.set h.row 2 vs') (fun i hi => by match i, hi with | 0, _ => rfl | 1, _ => rfl | 2, _ => rfl), h.lo, ownsRow_setCell_below h.bd (a := ⟨p, 2, none⟩) h.lo vs', ownsRow_setCell_below hb (a := ⟨p, 2, none⟩) h.lo vs'⟩
/-- Behind an append to one of the rows: the store is as it was, but for that row. -/
theorem PMm.grownB {o : Obj} (h : PMm w p B room vb vs fl m sp n) (hg : (w.alloc o).grownBy w2 vb.ownBlock) : w2.rowIs p 59 3 (psRow room vb vs) ∧ w2.ownsRow B 109 4 vs n (cells4 (spVs sp) n) := by
  have hl := h.lt
  refine ⟨World.rowIs.of_block (World.rowIs.alloc h.row o) (hg.block p (by simp; omega) (fun q => h.nb q.symm)), (h.sh.alloc o).kept hg h.apart'⟩
theorem PMm.grownS {o : Obj} (h : PMm w p B room vb vs fl m sp n) (hg : (w.alloc o).grownBy w2 vs.ownBlock) : w2.rowIs p 59 3 (psRow room vb vs) ∧ w2.ownsRow B 48 4 vb m (cells4 (flVs fl) m) := by
  have hl := h.lt
  refine ⟨World.rowIs.of_block (World.rowIs.alloc h.row o) (hg.block p (by simp; omega) (fun q => h.ns q.symm)), (h.bd.alloc o).kept hg h.apart⟩
end
end Go.Proofs.Ytnconbpneimjiaa

/-! ###  P13 to P15: the walks that look into the program's store: shelves.bitAt, Shelf.find, Bindings.find, Look, Of. -/
namespace Go.Proofs.Ytnconbpneimjiaa
open Go.RowKit Go.PlainAid

theorem ret_in {a b : Int} (h : a = b) : Ending.returned (.int .i64 a) = .returned (.int .i64 b) := by rw [h]
set_option maxRecDepth 100000 in
set_option maxHeartbeats 800000 in
theorem kbit_any (k : ByteArray) (a : Nat) (w : World) (hk : k.size ≤ maxLen) (ha : a ≤ maxLen) :
    Calls Try.prog 62 #[.string k, .int .i64 (a : Int)] w fun e w' => e = .returned (.int .i64 (kbit k a : Int)) ∧ w' = w := by
  have HK := hid (show kbit k a = if k.size ≤ a / 8 then 0 else btn k (a / 8) / 2 ^ (a % 8) % 2 from rfl)
  unfold maxLen at hk ha
  have hb := get_btn k
  have d0 : decide ((a : Int) < 0) = false := by simp
  generalize kbit k a = K at *
  by_cases hl : k.size ≤ a / 8
  · rw [if_pos hl] at HK
    have hl' : decide ((k.size : Int) ≤ (a : Int) / 8) = true := by simp; omega
    go_enter Try.func62, Try.ntmps62
    go_wp2
    go_ret
    exact ⟨ret_in (by rw [HK.out]; rfl), rfl⟩
  · rw [if_neg hl] at HK
    have hl' : decide ((k.size : Int) ≤ (a : Int) / 8) = false := by simp; omega
    have hbl := btn_lt k (a / 8)
    obtain ⟨q, hq⟩ : ∃ q, q = a / 8 := ⟨_, rfl⟩
    have HQ := hid hq
    have hqi : (a : Int) / 8 = (q : Int) := by omega
    have hql : q < k.size := by omega
    rw [← hq] at HK hbl
    clear hq
    go_enter Try.func62, Try.ntmps62
    go_wp2
    go_loop [5, 6] (fun pt i => ∃ y x : Nat, pt = .int .i64 y ∧ i = .int .i64 x ∧ x ≤ 7 ∧ y ≤ 255 ∧ K = y / 2 ^ x % 2) (fun _ i => (intOf i).toNat)
    case atStart => exact ⟨btn k q, a % 8, by go_num, by go_num, by omega, by omega, HK.out⟩
    case round =>
      obtain ⟨y, x, rfl, rfl, hx, hy, hp⟩ := hrel
      have HP := hid hp
      clear hp
      by_cases h0 : x = 0
      · have HX := hid h0
        have hd : ¬ 0 < x := by omega
        have hd' : ¬ 0 < (x : Int) := by omega
        clear h0
        go_wp2
        go_ret
        exact ⟨ret_in (by rw [HP.out, HX.out]; simp), rfl⟩
      · have hd : decide (0 < (x : Int)) = true := by simp; omega
        have HN := hid (show K = y / 2 / 2 ^ (x - 1) % 2 from by
          rw [HP.out, Nat.div_div_eq_div_mul, ← Nat.pow_succ', show (x - 1).succ = x from by omega])
        clear HP
        go_wp2
        go_round
        case rel => exact ⟨y / 2, x - 1, by go_num, by go_num, by omega, by omega, HN.out⟩
        case measure => first | (simp [intOf]; done) | (simp [intOf]; omega)

set_option maxRecDepth 100000 in
set_option maxHeartbeats 800000 in
theorem bfind_any (p B : Nat) (room : Int) (vb vs : Value) (fl : Nat → ByteArray) (m : Nat) (sp : Nat → Spt) (n : Nat) (id : Int) (w : World) (h : PMm w p B room vb vs fl m sp n) (hm : m ≤ 8) :
    Calls Try.prog 33 #[.pointer (some ⟨p, 0, none⟩), .int .i64 id] w fun e w' => (∃ x : Int, e = .returned (.int .i64 x) ∧ ((x = -1 ∧ ∀ i, i < m → (num (fl i) 3 2 : Int) ≠ id) ∨ ∃ k, k < m ∧ x = (k : Int) ∧ (num (fl k) 3 2 : Int) = id)) ∧ w' = w := by
  have c1 := h.c1
  obtain ⟨ao, cap, rfl, hcell⟩ := h.files
  have HC := hid hcell
  clear hcell h
  go_enter Try.func33, Try.ntmps33
  go_wp2
  go_loop [5] (fun i => ∃ k : Nat, i = .int .i64 k ∧ k ≤ m ∧ ∀ j, j < k → (num (fl j) 3 2 : Int) ≠ id) (fun i => m - (intOf i).toNat)
  case atStart => exact ⟨0, rfl, Nat.zero_le _, fun j hj => absurd hj (Nat.not_lt_zero j)⟩
  case round =>
    obtain ⟨k, rfl, hk, hp⟩ := hrel
    have HP := hid hp
    clear hp
    by_cases hlt : k < m
    · have hlt' : (k : Int) < (m : Int) := by omega
      obtain ⟨g, rfl, g1, g2, g3⟩ := HC.out k hlt
      have q0 : w.cell? ⟨g, k * 4, none⟩ = some (.int .i64 (num (fl k) 3 2 : Int)) := (g3 0 (by omega)).1
      have HN := hid (show num (fl k) 3 2 = num (fl k) 3 2 from rfl)
      have hnl := num_lt (fl k) 3 2
      clear g3
      revert HN
      generalize hgn : num (fl k) 3 2 = N at *
      have HGN := hid hgn
      clear hgn
      intro _
      by_cases e2 : (N : Int) = id
      · have e2' : ((N : Int) == id) = true := by simp [e2]
        have HE := hid e2
        clear e2
        go_wp2
        go_ret
        exact ⟨⟨(k : Int), rfl, .inr ⟨k, hlt, rfl, by rw [HGN.out]; exact HE.out⟩⟩, rfl⟩
      · have e2' : ((N : Int) == id) = false := by simp [e2]
        have HE := hid e2
        clear e2
        go_wp2
        go_round
        case rel =>
          refine ⟨k + 1, by go_num, by omega, fun j hj => ?_⟩
          rcases Nat.lt_or_ge j k with c | c
          · exact HP.out j c
          · rw [show j = k from by omega, HGN.out]; exact HE.out
        case measure => first | (simp [intOf]; done) | (simp [intOf]; omega)
    · have hlt' : ¬ (k : Int) < (m : Int) := by omega
      have HK := hid (show k = m from by omega)
      go_wp2
      go_ret
      exact ⟨⟨-1, rfl, .inl ⟨rfl, fun i hi => HP.out i (by rw [HK.out]; exact hi)⟩⟩, rfl⟩

/-- Where a key's way ends, as a value. -/
def endV (f : Bool) (a d : Nat) : Value := .agg #[.bool f, .int .i64 (a : Int), .int .i64 (d : Int)]
def eRow (f : Bool) (a d j : Nat) : Value := if j = 0 then .bool f else if j = 1 then .int .i64 (a : Int) else .int .i64 (d : Int)
theorem eRow_one (f : Bool) (a d j : Nat) : (eRow f a d j).oneCell' = true := by
  unfold eRow
  split
  · rfl
  · split <;> rfl
theorem eRow_new (w : World) : (w.alloc (.cells #[.bool false, .int .i64 0, .int .i64 0] 105)).rowIs w.heap.size 105 3 (eRow false 0 0) :=
  World.rowIs_alloc w #[.bool false, .int .i64 0, .int .i64 0] 105 (eRow false 0 0) (fun i hi => by
    have hi' : i < 3 := hi
    match i, hi' with
    | 0, _ => rfl
    | 1, _ => rfl
    | 2, _ => rfl)
theorem sizeEnd : (Try.prog.info? 105).map (·.size) = some 3 := by kernel_rfl
/-- How a key's way ends. -/
def EndIs (sp : Nat → Spt) (n : Nat) (k : ByteArray) (e : Ending) : Prop := ∃ f a d, e = .returned (endV f a d) ∧ Fnd0 sp n k f a d
theorem Spt.nx0 (s : Spt) : s.nx 0 = s.b0 := rfl
theorem Spt.nx1 (s : Spt) : s.nx 1 = s.b1 := rfl
set_option maxRecDepth 100000 in
set_option maxHeartbeats 1600000 in
theorem sfind_any (p B : Nat) (room : Int) (vb vs : Value) (fl : Nat → ByteArray) (m : Nat) (sp : Nat → Spt) (n : Nat) (k : ByteArray) (w : World) (h : PMm w p B room vb vs fl m sp n) (hS : Shf sp n) (hk : k.size ≤ maxLen) :
    Calls Try.prog 54 #[.pointer (some ⟨p, 2, none⟩), .string k] w fun e w' => EndIs sp n k e ∧ Below w.heap.size w w' := by
  have c2 := h.c2
  have hp := h.lt
  have hn := own_max h.sh
  obtain ⟨ao, cap, rfl, hcell⟩ := h.spots
  have HC := hid hcell
  have HB := hid (fun a w (ha : a ≤ maxLen) => kbit_any k a w hk ha)
  have hq := eRow_new w
  have hbq : Below w.heap.size w (w.alloc (.cells #[.bool false, .int .i64 0, .int .i64 0] 105)) := (Below.refl _ _).alloc (Nat.le_refl _) _
  clear hcell h
  unfold maxLen at hn HB
  go_enter Try.func54, Try.ntmps54
  go_wp2
  go_loop [5, 6, 7, 8] (fun at' st _ _ => ∃ a s : Nat, at' = .int .i64 a ∧ st = .int .i64 s ∧ Wlk sp n k s a ∧ (a < n ∨ n = 0) ∧ s ≤ a) (fun at' _ _ _ => n - (intOf at').toNat)
  case atStart => exact ⟨0, 0, rfl, rfl, Wlk.zero sp n k, by omega, Nat.le_refl _⟩
  case round =>
    obtain ⟨a, s, rfl, rfl, hW, han, hsa⟩ := hrel
    by_cases hlt : a < n
    · have hlt' : (a : Int) < (n : Int) := by omega
      obtain ⟨g, rfl, g1, g2, g3⟩ := HC.out a hlt
      have q0 : w.cell? ⟨g, a * 4, none⟩ = some (.string (sp a).ky) := (g3 0 (by omega)).1
      have q2 : w.cell? ⟨g, a * 4 + 2, none⟩ = some (.int .i64 ((sp a).b0 : Int)) := (g3 2 (by omega)).1
      have q3 : w.cell? ⟨g, a * 4 + 3, none⟩ = some (.int .i64 ((sp a).b1 : Int)) := (g3 3 (by omega)).1
      have teq := text_beq (sp a).ky k
      clear g3 han
      by_cases e : (sp a).ky = k
      · have e' : ((sp a).ky.toList == k.toList) = true := by rw [teq]; simp [e]
        have HE := hid e
        have HR := hid (show Fnd0 sp n k true a 0 from ⟨fun _ => ⟨hlt, e⟩, fun q => by simp at q⟩)
        clear e teq hW
        go_wp2_with (refine wpList_store_rowIs rfl 105 (.tmp 4) (.tmp 29) rfl w.heap.size rfl 105 3 (eRow false 0 0) (eRow true a 0) hq rfl sizeEnd (fun i _ => eRow_one _ _ _ i) ?_; intro w5 q5 b5 o5 s5)
        have hr := run_loadVar_rowIs (P := Try.prog) w5 w.heap.size 105 105 3 (eRow true a 0) _ q5 Try.underlying105 rfl sizeEnd
        refine bodyPost_ret (v := .agg (arrOf 3 (eRow true a 0))) ?_ rfl ⟨⟨true, a, 0, rfl, HR.out⟩, hbq.trans b5⟩
        simp [results, Try.results54, asAddr, hr]
      · have e' : ((sp a).ky.toList == k.toList) = false := by rw [teq]; simp [e]
        have HE := hid e
        have hcall := hid (fun w => HB.out s w (by omega))
        have hd2 := kbit_lt k s
        have HD : Hid (∃ d, d = kbit k s) := hid ⟨_, rfl⟩
        obtain ⟨d, hd⟩ := HD.out
        have HDe := hid hd
        rw [← hd] at hcall hd2
        have qd : w.cell? ⟨g, a * 4 + 2 + d, none⟩ = some (.int .i64 ((sp a).nx d : Int)) := by
          have hd01 : d = 0 ∨ d = 1 := by omega
          rcases hd01 with rfl | rfl
          · rw [Spt.nx0]; exact q2
          · rw [Spt.nx1]; exact q3
        have hbd := hS.bd a hlt d
        have HS2 := hid hS
        have HW := hid hW
        clear e teq hd hW q2 q3 HD
        generalize hx : (sp a).nx d = x at *
        have HX := hid hx
        clear hx
        have hdi : (d : Int) < 2 := by omega
        by_cases hxa : x ≤ a
        · have hxa' : (x : Int) ≤ (a : Int) := by omega
          have HR := hid (show Fnd0 sp n k false a d from ⟨fun q => by simp at q, fun _ => ⟨HW.out.none HS2.out HE.out (by rw [← HDe.out, HX.out]; exact hxa), hd2, .inr ⟨hlt, s, HW.out, HDe.out, by rw [HX.out]; exact hxa⟩⟩⟩)
          go_wp2_with (first
            | (go_at_call 62; refine Calls.mono (hcall.out _) ?_; rintro e w9 ⟨rfl, k9⟩; rw [k9]; clear k9 w9)
            | (refine wpList_store_rowIs rfl 105 (.tmp 4) (.tmp 48) rfl w.heap.size rfl 105 3 (eRow false 0 0) (eRow false a d) hq rfl sizeEnd (fun i _ => eRow_one _ _ _ i) ?_; intro w5 q5 b5 o5 s5))
          have hr := run_loadVar_rowIs (P := Try.prog) w5 w.heap.size 105 105 3 (eRow false a d) _ q5 Try.underlying105 rfl sizeEnd
          refine bodyPost_ret (v := .agg (arrOf 3 (eRow false a d))) ?_ rfl ⟨⟨false, a, d, rfl, HR.out⟩, hbq.trans b5⟩
          simp [results, Try.results54, asAddr, Act.put, hr]
        · have hxa' : ¬ (x : Int) ≤ (a : Int) := by omega
          have HN := hid (show Wlk sp n k (s + 1) x from by
            have := HW.out.next HE.out (by rw [← HDe.out, HX.out]; omega)
            rwa [← HDe.out, HX.out] at this)
          go_wp2_with (first
            | (go_at_call 62; refine Calls.mono (hcall.out _) ?_; rintro e w9 ⟨rfl, k9⟩; rw [k9]; clear k9 w9))
          go_round
          case rel => exact ⟨x, s + 1, by go_num, by go_num, HN.out, .inl hbd, by omega⟩
          case measure => first | (simp [intOf]; done) | (simp [intOf]; omega)
    · have hlt' : ¬ (a : Int) < (n : Int) := by omega
      have hn0 : n = 0 := by omega
      have HR := hid (show Fnd0 sp n k false 0 0 from ⟨fun q => by simp at q, fun _ => ⟨fun i hi => by omega, by omega, .inl ⟨hn0, rfl, rfl⟩⟩⟩)
      clear hn0
      go_wp2_with (refine wpList_store_rowIs rfl 105 (.tmp 4) (.tmp 50) rfl w.heap.size rfl 105 3 (eRow false 0 0) (eRow false 0 0) hq rfl sizeEnd (fun i _ => eRow_one _ _ _ i) ?_; intro w5 q5 b5 o5 s5)
      have hr := run_loadVar_rowIs (P := Try.prog) w5 w.heap.size 105 105 3 (eRow false 0 0) _ q5 Try.underlying105 rfl sizeEnd
      refine bodyPost_ret (v := .agg (arrOf 3 (eRow false 0 0))) ?_ rfl ⟨⟨false, 0, 0, rfl, HR.out⟩, hbq.trans b5⟩
      simp [results, Try.results54, asAddr, hr]
end Go.Proofs.Ytnconbpneimjiaa

/-! ###  P13 to P15: the walks of Shelf.Look, Bindings.Of. -/
namespace Go.Proofs.Ytnconbpneimjiaa
open Go.RowKit Go.PlainAid

/-- What Look answers. -/
def lkV (o : Option ByteArray) : Value :=
  match o with
  | none => .tuple #[.string ⟨#[]⟩, .bool false]
  | some t => .tuple #[.string t, .bool true]
theorem lkV_some {o : Option ByteArray} {t : ByteArray} (h : o = some t) : Ending.returned (.tuple #[.string t, .bool true]) = .returned (lkV o) := by rw [h]; rfl
theorem lkV_none {o : Option ByteArray} (h : o = none) : Ending.returned (.tuple #[.string ⟨#[]⟩, .bool false]) = .returned (lkV o) := by rw [h]; rfl
set_option maxRecDepth 100000 in
set_option maxHeartbeats 1600000 in
theorem look_any (p B : Nat) (room : Int) (vb vs : Value) (fl : Nat → ByteArray) (m : Nat) (sp : Nat → Spt) (n : Nat) (l : List Ev) (k : ByteArray) (w : World) (h : PMm w p B room vb vs fl m sp n) (hS : ShL l sp n) (hk : k.size ≤ maxLen) :
    Calls Try.prog 38 #[.pointer (some ⟨p, 2, none⟩), .string k] w fun e w' => e = .returned (lkV (frmOf l k)) ∧ Below w.heap.size w w' := by
  have HF := hid (sfind_any p B room vb vs fl m sp n k w h hS.ord hk)
  have hp := h.lt
  have hn := own_max h.sh
  unfold maxLen at hn
  go_enter Try.func38, Try.ntmps38
  go_wp2_with fail
  refine Calls.mono HF.out ?_
  rintro e w1 ⟨⟨f, a, d, rfl, hF⟩, b1⟩
  have hq := eRow_new w1
  have hM1 := h.below b1
  have hB := b1.alloc b1.size (.cells #[.bool false, .int .i64 0, .int .i64 0] 105)
  unfold endV
  cases f
  · have HR := hid (hS.no k (hF.no rfl).1)
    clear hF hM1
    go_wp2_with (first
      | (refine wpList_store_rowIs rfl 105 (.tmp 6) (.tmp 9) rfl w1.heap.size rfl 105 3 (eRow false 0 0) (eRow false a d) hq rfl sizeEnd (fun i _ => eRow_one _ _ _ i) ?_
         intro w5 q5 b5 o5 s5
         have c0 : w5.cell? ⟨w1.heap.size, 0, none⟩ = some (.bool false) := World.rowIs.cell q5 (i := 0) (by omega)))
    go_ret2
    exact ⟨lkV_none HR.out, hB.trans (b5.mono b1.size)⟩
  · obtain ⟨ha, hka⟩ := hF.yes rfl
    have HR := hid (show frmOf l k = some (sp a).tx from by rw [← hka]; exact hS.has a ha)
    have ha' : (a : Int) < (n : Int) := by omega
    clear hF hka
    go_wp2_with (first
      | (refine wpList_store_rowIs rfl 105 (.tmp 6) (.tmp 9) rfl w1.heap.size rfl 105 3 (eRow false 0 0) (eRow true a d) hq rfl sizeEnd (fun i _ => eRow_one _ _ _ i) ?_
         intro w5 q5 b5 o5 s5
         have c0 : w5.cell? ⟨w1.heap.size, 0, none⟩ = some (.bool true) := World.rowIs.cell q5 (i := 0) (by omega)
         have c1 : w5.cell? ⟨w1.heap.size, 1, none⟩ = some (.int .i64 (a : Int)) := World.rowIs.cell q5 (i := 1) (by omega)
         have hM5 := (hM1.alloc (.cells #[.bool false, .int .i64 0, .int .i64 0] 105)).kept (w2 := w5) (fun k hk => by
           have hlt : k < w1.heap.size := by
             rcases hk with rfl | q | q
             · exact hM1.lt
             · exact (hM1.bd.lt k q).2
             · exact (hM1.sh.lt k q).2
           exact o5 k (by omega))
         have e2 := hM5.c2
         obtain ⟨ao, cap, rfl, hcell⟩ := hM5.spots
         obtain ⟨g, rfl, g1, g2, g3⟩ := hcell a ha
         have q1 : w5.cell? ⟨g, a * 4 + 1, none⟩ = some (.string (sp a).tx) := (g3 1 (by omega)).1
         clear g3 hcell hM5))
    go_quiet (fail)
    go_wp2
    go_ret2
    exact ⟨lkV_some HR.out, Below.drewN (hB.trans (b5.mono b1.size)) _⟩

/-- What Of answers: of no file, or of one. -/
def foV (f : ByteArray) : Value := if f = ⟨#[]⟩ then .tuple #[fileV 0 ⟨#[]⟩ ⟨#[]⟩ 0, .bool false] else .tuple #[fileV (num f 3 2 : Int) (pAns f).2.1 (pAns f).2.2.1 (wSum (f.extract 0 (pE f)) : Nat), .bool true]
theorem foV_no {f : ByteArray} (h : f = ⟨#[]⟩) : Ending.returned (.tuple #[fileV 0 ⟨#[]⟩ ⟨#[]⟩ 0, .bool false]) = .returned (foV f) := by unfold foV; rw [if_pos h]
theorem foV_yes {f : ByteArray} (h : f ≠ ⟨#[]⟩) : Ending.returned (.tuple #[fileV (num f 3 2 : Int) (pAns f).2.1 (pAns f).2.2.1 (wSum (f.extract 0 (pE f)) : Nat), .bool true]) = .returned (foV f) := by unfold foV; rw [if_neg h]
theorem range4 {w : World} {g o : Nat} {v : Nat → Value} (h : ∀ j, j < 4 → w.cell? ⟨g, o + j, none⟩ = some (v j)) : w.rangeAt g o [v 0, v 1, v 2, v 3] := by
  intro j u hj
  have hl : j < 4 := by
    rcases Nat.lt_or_ge j 4 with c | c
    · exact c
    · rw [List.getElem?_eq_none (by simpa using c)] at hj; simp at hj
  have e : [v 0, v 1, v 2, v 3][j]? = some (v j) := by
    have h4 : j = 0 ∨ j = 1 ∨ j = 2 ∨ j = 3 := by omega
    rcases h4 with rfl | rfl | rfl | rfl <;> rfl
  rw [e] at hj
  rw [← Option.some.inj hj]
  exact h j hl
theorem file_range {w : World} {g k : Nat} {f : ByteArray} (h : ∀ j, j < 4 → w.cell? ⟨g, k * 4 + j, none⟩ = some (flV f j)) : w.rangeAt g (k * 4) [flV f 0, flV f 1, flV f 2, flV f 3] := range4 (v := flV f) h
set_option maxRecDepth 100000 in
set_option maxHeartbeats 1600000 in
theorem bof_any (p B : Nat) (room : Int) (vb vs : Value) (fl : Nat → ByteArray) (m : Nat) (sp : Nat → Spt) (n : Nat) (l : List Ev) (id : Int) (w : World) (h : PMm w p B room vb vs fl m sp n) (hm : m ≤ 8) (hL : BdL l room fl m) :
    Calls Try.prog 40 #[.pointer (some ⟨p, 0, none⟩), .int .i64 id] w fun e w' => e = .returned (foV (fileOf l id)) ∧ Below w.heap.size w w' := by
  have hM := h.alloc (.cells #[.int .i64 0, .string ⟨#[]⟩, .string ⟨#[]⟩, .int .i64 0] 48)
  have HF := hid (bfind_any p B room vb vs fl m sp n id _ hM hm)
  have hq := fRow_new w
  have hbq : Below w.heap.size w (w.alloc (.cells #[.int .i64 0, .string ⟨#[]⟩, .string ⟨#[]⟩, .int .i64 0] 48)) := (Below.refl _ _).alloc (Nat.le_refl _) _
  have HM := hid hM
  have hp := h.lt
  have HH := hid h
  clear h hM
  go_enter Try.func40, Try.ntmps40
  go_wp2_with fail
  refine Calls.mono HF.out ?_
  rintro e w1 ⟨⟨x, rfl, hx⟩, k1⟩
  rw [k1]
  clear k1 w1
  rcases hx with ⟨rfl, hno⟩ | ⟨k, hk, rfl, hid'⟩
  · have HR := hid (hL.no id hno)
    clear hno
    go_wp2_with (refine wpList_store_rowIs rfl 48 (.tmp 4) (.tmp 12) rfl w.heap.size rfl 48 4 (fRow 0 ⟨#[]⟩ ⟨#[]⟩ 0) (fRow 0 ⟨#[]⟩ ⟨#[]⟩ 0) hq rfl sizeFile (fun i _ => fRow_one _ _ _ _ i) ?_; intro w5 q5 b5 o5 s5)
    have hr := run_loadVar_rowIs (P := Try.prog) w5 w.heap.size 48 48 4 (fRow 0 ⟨#[]⟩ ⟨#[]⟩ 0) _ q5 Try.underlying48 rfl sizeFile
    refine bodyPost_ret (v := .tuple #[.agg (arrOf 4 (fRow 0 ⟨#[]⟩ ⟨#[]⟩ 0)), .bool false]) ?_ rfl ⟨foV_no HR.out, hbq.trans b5⟩
    simp [results, Try.results40, asAddr, hr]
  · have HR := hid (show fileOf l id = fl k from by rw [← hid']; exact hL.has k hk)
    have HOK := hid (hL.ok k hk)
    have hk' : (k : Int) < (m : Int) := by omega
    have hk0 : ¬ (k : Int) < 0 := by omega
    have c1 : (w.alloc (.cells #[.int .i64 0, .string ⟨#[]⟩, .string ⟨#[]⟩, .int .i64 0] 48)).cell? ⟨p, 1, none⟩ = some vb := HM.out.c1
    obtain ⟨ao, cap, rfl, hcell⟩ := HM.out.files
    obtain ⟨g, rfl, g1, g2, g3⟩ := hcell k hk
    have hrg := file_range (fun j hj => (g3 j hj).1)
    clear g3 hcell hid'
    go_wp2_with (first
      | (refine wpList_load_mid rfl 48 (.tmp 18) rfl g (k * 4) rfl _ _ hrg Try.underlying48 rfl sizeFile ?_)
      | (refine wpList_store_rowIs rfl 48 (.tmp 4) (.tmp 19) rfl w.heap.size rfl 48 4 (fRow 0 ⟨#[]⟩ ⟨#[]⟩ 0) (flV (fl k)) hq rfl sizeFile (fun i _ => fRow_one _ _ _ _ i) ?_; intro w5 q5 b5 o5 s5))
    have hr := run_loadVar_rowIs (P := Try.prog) w5 w.heap.size 48 48 4 (flV (fl k)) _ q5 Try.underlying48 rfl sizeFile
    refine bodyPost_ret (v := .tuple #[.agg (arrOf 4 (flV (fl k))), .bool true]) ?_ rfl ⟨?_, hbq.trans b5⟩
    · simp [results, Try.results40, asAddr, hr]
    · rw [HR.out]; exact foV_yes (pOk_nemp HOK.out)
end Go.Proofs.Ytnconbpneimjiaa

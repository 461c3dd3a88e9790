/-
  P5, P6: the walks of a layout's methods.
  Laws on whole rows: a row read whole, a row written whole, over 'rowIs'.
  P5, P6: the walks of numberSlots and Lay.
  P5, P6: the walk of Lay.
-/
import Derived.Test.YtnconbpneimjiaaStrTab
import Derived.Test.YtnconbpneimjiaaPlain
import Derived.Deep.MidRow
import Derived.Deep.WholeRow
import Derived.WalkKit
import Derived.Deep.OwnRows
namespace Go.Proofs.Ytnconbpneimjiaa
open Go.RowKit Go.PlainAid

/-! ### P5, P6: the walks of a layout's methods. -/
/-- The cells of a layout. -/
def layRow (own num shr : Nat → Nat) : Nat → Value := fun i => if i < 64 then .int .u8 (own i : Int) else if i < 128 then .int .i64 (num (i - 64) : Int) else .int .i64 (shr (i - 128) : Int)
/-- A layout lies in block b. -/
def Lyt (w : World) (b : Nat) (own num shr : Nat → Nat) : Prop := w.rowIs b 135 384 (layRow own num shr)

section
variable {w : World} {b : Nat} {own num shr : Nat → Nat}
theorem Lyt.ownC (h : Lyt w b own num shr) {s : Nat} (hs : s < 64) : w.cell? ⟨b, s, none⟩ = some (.int .u8 (own s : Int)) := by
  rw [World.rowIs.cell h (i := s) (by omega)]; simp [layRow, hs]
theorem Lyt.numC (h : Lyt w b own num shr) {s : Nat} (hs : s < 64) : w.cell? ⟨b, 64 + s, none⟩ = some (.int .i64 (num s : Int)) := by
  rw [World.rowIs.cell h (i := 64 + s) (by omega)]; simp only [layRow]
  rw [if_neg (by omega), if_pos (by omega), show 64 + s - 64 = s from by omega]
theorem Lyt.shrC (h : Lyt w b own num shr) {v : Nat} (hv : v < 256) : w.cell? ⟨b, 128 + v, none⟩ = some (.int .i64 (shr v : Int)) := by
  rw [World.rowIs.cell h (i := 128 + v) (by omega)]; simp only [layRow]
  rw [if_neg (by omega), if_neg (by omega), show 128 + v - 128 = v from by omega]
theorem Lyt.congr {own' num' shr' : Nat → Nat} (h : Lyt w b own num shr) (h1 : ∀ s, s < 64 → own s = own' s) (h2 : ∀ s, s < 64 → num s = num' s) (h3 : ∀ v, v < 256 → shr v = shr' v) : Lyt w b own' num' shr' := by
  refine World.rowIs.congr h fun i hi => ?_
  simp only [layRow]
  by_cases c1 : i < 64
  · rw [if_pos c1, if_pos c1, h1 i c1]
  · rw [if_neg c1, if_neg c1]
    by_cases c2 : i < 128
    · rw [if_pos c2, if_pos c2, h2 (i - 64) (by omega)]
    · rw [if_neg c2, if_neg c2, h3 (i - 128) (by omega)]
theorem Lyt.setOwn (h : Lyt w b own num shr) {s : Nat} (hs : s < 64) (x : Nat) : Lyt (w.setCell ⟨b, s, none⟩ (.int .u8 (x : Int))) b (fun j => if j = s then x else own j) num shr := by
  refine World.rowIs.congr (World.rowIs.set h s _) fun i hi => ?_
  simp only [layRow]
  by_cases c : i = s
  · subst c; simp [hs]
  · simp [c]
theorem Lyt.setNum (h : Lyt w b own num shr) {s : Nat} (hs : s < 64) (x : Nat) : Lyt (w.setCell ⟨b, 64 + s, none⟩ (.int .i64 (x : Int))) b own (fun j => if j = s then x else num j) shr := by
  refine World.rowIs.congr (World.rowIs.set h (64 + s) _) fun i hi => ?_
  simp only [layRow]
  by_cases c : i = 64 + s
  · subst c
    rw [if_pos rfl, if_neg (by omega), if_pos (by omega), if_pos (by omega)]
  · rw [if_neg c]
    by_cases c1 : i < 64
    · rw [if_pos c1, if_pos c1]
    · rw [if_neg c1, if_neg c1]
      by_cases c2 : i < 128
      · rw [if_pos c2, if_pos c2, if_neg (by omega)]
      · rw [if_neg c2, if_neg c2]
theorem Lyt.setShr (h : Lyt w b own num shr) {v : Nat} (hv : v < 256) (x : Nat) : Lyt (w.setCell ⟨b, 128 + v, none⟩ (.int .i64 (x : Int))) b own num (fun j => if j = v then x else shr j) := by
  refine World.rowIs.congr (World.rowIs.set h (128 + v) _) fun i hi => ?_
  simp only [layRow]
  by_cases c : i = 128 + v
  · subst c
    rw [if_pos rfl, if_neg (by omega), if_neg (by omega), if_pos (by omega)]
  · rw [if_neg c]
    by_cases c1 : i < 64
    · rw [if_pos c1, if_pos c1]
    · rw [if_neg c1, if_neg c1]
      by_cases c2 : i < 128
      · rw [if_pos c2, if_pos c2]
      · rw [if_neg c2, if_neg c2, if_neg (by omega)]
theorem Lyt.below {w' : World} {B : Nat} (h : Lyt w b own num shr) (hb : Below B w w') (hB : b < B) : Lyt w' b own num shr := World.rowIs.of_block h (hb.block b hB)
end

set_option maxRecDepth 100000 in
theorem share_any (b : Nat) (own num shr : Nat → Nat) (v : Nat) (w : World) (h : Lyt w b own num shr) (hv : v < 256) :
    Calls Try.prog 80 #[.pointer (some ⟨b, 0, none⟩), .int .u8 v] w fun e w' => e = .returned (.int .i64 (shr v : Int)) ∧ w' = w := by
  have h1 := h.shrC hv
  go_enter Try.func80, Try.ntmps80
  go_wp2
  go_ret
  exact ⟨rfl, rfl⟩
set_option maxRecDepth 100000 in
theorem owner_any (b : Nat) (own num shr : Nat → Nat) (s : Nat) (w : World) (h : Lyt w b own num shr) (hs : s < 64) :
    Calls Try.prog 85 #[.pointer (some ⟨b, 0, none⟩), .int .i64 s] w fun e w' => e = .returned (.int .u8 (own s : Int)) ∧ w' = w := by
  have h1 := h.ownC hs
  have c1 : decide ((s : Int) < 0) = false := by simp
  have c2 : decide ((64 : Int) ≤ (s : Int)) = false := by simp; omega
  go_enter Try.func85, Try.ntmps85
  go_wp2
  go_ret
  exact ⟨rfl, rfl⟩
set_option maxRecDepth 100000 in
theorem number_any (b : Nat) (own num shr : Nat → Nat) (s : Nat) (w : World) (h : Lyt w b own num shr) (hs : s < 64) :
    Calls Try.prog 86 #[.pointer (some ⟨b, 0, none⟩), .int .i64 s] w fun e w' => e = .returned (.int .i64 (num s : Int)) ∧ w' = w := by
  have h1 := h.numC hs
  have c1 : decide ((s : Int) < 0) = false := by simp
  have c2 : decide ((64 : Int) ≤ (s : Int)) = false := by simp; omega
  go_enter Try.func86, Try.ntmps86
  go_wp2
  go_ret
  exact ⟨rfl, rfl⟩
set_option maxRecDepth 100000 in
set_option maxHeartbeats 400000 in
theorem slot_any (b : Nat) (own num shr : Nat → Nat) (v m s : Nat) (w : World) (h : Lyt w b own num shr) (hs : s < 64) (h1 : own s = v) (h2 : num s = m) (hno : ∀ j, j < s → own j = v → num j ≠ m) :
    Calls Try.prog 81 #[.pointer (some ⟨b, 0, none⟩), .int .u8 v, .int .i64 m] w fun e w' => e = .returned (.int .i64 (s : Int)) ∧ w' = w := by
  have H1 := hid h1
  have H2 := hid h2
  have HN := hid hno
  clear h1 h2 hno
  go_enter Try.func81, Try.ntmps81
  go_wp2
  go_loop [7] (fun i => ∃ k : Nat, k ≤ s ∧ i = .int .i64 k) (fun i => 64 - (intOf i).toNat)
  case atStart => exact ⟨0, Nat.zero_le _, rfl⟩
  case round =>
    obtain ⟨k, hk, rfl⟩ := hrel
    have hk64 : k < 64 := by omega
    have g1 := h.ownC hk64
    have g2 := h.numC hk64
    by_cases c : k = s
    · have e1 : ((own k : Int) == (v : Int)) = true := by rw [c, H1.out]; simp
      have e2 : ((num k : Int) == (m : Int)) = true := by rw [c, H2.out]; simp
      have HC := hid c
      clear c
      go_wp2
      go_ret
      exact ⟨congrArg (fun q : Nat => Ending.returned (.int .i64 (q : Int))) HC.out, rfl⟩
    · by_cases d : own k = v
      · have e1 : ((own k : Int) == (v : Int)) = true := by simp [d]
        have e2 : ((num k : Int) == (m : Int)) = false := by
          have := HN.out k (by omega) d
          simp; omega
        clear d
        go_wp2
        go_round
        case rel => exact ⟨k + 1, by omega, by go_num⟩
        case measure => simp [intOf]; omega
      · have e1 : ((own k : Int) == (v : Int)) = false := by simp; omega
        clear d
        go_wp2
        go_round
        case rel => exact ⟨k + 1, by omega, by go_num⟩
        case measure => simp [intOf]; omega

/-! ### Laws on whole rows: a row read whole, a row written whole, over 'rowIs'. -/
section
variable {P : Program}

/-- The row as an array. -/
def arrOf (n : Nat) (f : Nat → Value) : Array Value := ((List.range n).map f).toArray
theorem arrOf_size (n : Nat) (f : Nat → Value) : (arrOf n f).size = n := by simp [arrOf]
theorem arrOf_get (n : Nat) (f : Nat → Value) (i : Nat) (hi : i < n) : (arrOf n f)[i]? = some (f i) := by simp [arrOf, hi]
theorem arrOf_all (n : Nat) (f : Nat → Value) (h : ∀ i, i < n → (f i).oneCell' = true) : (arrOf n f).all (·.oneCell') = true := by
  unfold arrOf
  refine all_oneCell_toArray fun v hv => ?_
  obtain ⟨i, hi, rfl⟩ := List.mem_map.1 hv
  exact h i (List.mem_range.1 hi)
theorem arrOf_eq {c : Array Value} {n : Nat} {f : Nat → Value} (hs : c.size = n) (h : ∀ i, i < n → c[i]? = some (f i)) : c = arrOf n f := by
  apply Array.ext_getElem?
  intro i
  by_cases hi : i < n
  · rw [h i hi, arrOf_get n f i hi]
  · rw [Array.getElem?_eq_none (by omega), Array.getElem?_eq_none (by rw [arrOf_size]; omega)]

theorem wpList_load_rowIs {ops : Array Oper} {rest : List Oper} {o : Oper} {a : Act} {w : World} {Q : Exit → Act → World → Prop} (hgd : o.guard = none) (ty : TypeId) (x : Operand) (ho : o.op = .load ty x)
    (g : Nat) (hx : a.eval x = .pointer (some ⟨g, 0, none⟩)) (t : TypeId) (n : Nat) (f : Nat → Value) (hrow : w.rowIs g t n f) (d : TypeDesc)
    (hu : P.underlying ty = some d) (hd : (match d with | .struct _ | .array _ _ => true | _ => false) = true) (hi : (P.info? ty).map (·.size) = some n)
    (h : wpList P ops Q rest (a.put o.dst (.agg (arrOf n f))) w) : wpList P ops Q (o :: rest) a w := by
  obtain ⟨c, hc, hs, hf⟩ := hrow
  have e := arrOf_eq hs hf
  rw [← e] at h
  exact wpList_load_row hgd ty x ho g hx t c (0, 0) d hc hu hd (by rw [hs]; exact hi) h

theorem wpList_store_rowIs {ops : Array Oper} {rest : List Oper} {op : Oper} {a : Act} {w : World} {Q : Exit → Act → World → Prop} (hgd : op.guard = none) (ty : TypeId) (x y : Operand) (ho : op.op = .store ty x y)
    (g : Nat) (hx : a.eval x = .pointer (some ⟨g, 0, none⟩)) (t : TypeId) (n : Nat) (f f' : Nat → Value) (hrow : w.rowIs g t n f) (hy : a.eval y = .agg (arrOf n f'))
    (hi : (P.info? ty).map (·.size) = some n) (h1 : ∀ i, i < n → (f' i).oneCell' = true)
    (h : ∀ w', w'.rowIs g t n f' → Below g w w' → (∀ k, k ≠ g → w'.heap[k]? = w.heap[k]?) → w'.heap.size = w.heap.size → wpList P ops Q rest (a.put op.dst undef) w') : wpList P ops Q (op :: rest) a w := by
  obtain ⟨c, hc, hs, hf⟩ := hrow
  have hr := run_storeVar_row (P := P) w g t ty c (arrOf n f') hc (by rw [arrOf_size]; exact hi) (by rw [arrOf_size]; exact hs) (arrOf_all n f' h1)
  refine wpList_plain hgd fun _ hK => ?_
  unfold Oper.wp execOp
  simp only [ho, hx, hy, Instr.storeAt, Instr.sureAddr, Sem.run_bind, Sem.run_pure, Result.andThen_ok, hr]
  have hoth : ∀ k, k ≠ g → (w.setRow g (arrOf n f')).heap[k]? = w.heap[k]? := fun k hk => setRow_other w g k _ hk
  refine hK _ _ (h _ ⟨_, setRow_heap w g c _ t (0, 0) hc, arrOf_size _ _, fun i hi => arrOf_get n f' i hi⟩ ⟨rfl, rfl, rfl, by simp, fun k hk => hoth k (by omega)⟩ hoth (by simp))

/-- A part of a row, read whole. -/
theorem wpList_load_part {ops : Array Oper} {rest : List Oper} {op : Oper} {a : Act} {w : World} {Q : Exit → Act → World → Prop} (hgd : op.guard = none) (ty : TypeId) (x : Operand) (ho : op.op = .load ty x)
    (b o : Nat) (hx : a.eval x = .pointer (some ⟨b, o, none⟩)) (n : Nat) (f : Nat → Value) (d : TypeDesc) (hc : ∀ i, i < n → w.cell? ⟨b, o + i, none⟩ = some (f i))
    (hu : P.underlying ty = some d) (hd : d.isRow = true) (hi : (P.info? ty).map (·.size) = some n)
    (h : wpList P ops Q rest (a.put op.dst (.agg (arrOf n f))) w) : wpList P ops Q (op :: rest) a w := by
  refine wpList_load_mid hgd ty x ho b o hx ((List.range n).map f) d (fun j v hv => ?_) hu hd (by simpa using hi) h
  have hj : j < n := by
    have := (List.getElem?_eq_some_iff.1 hv).1
    simpa using this
  rw [hc j hj]
  simpa [hj] using hv
/-- A row read whole, as a result is read. -/
theorem run_loadVar_rowIs (w : World) (g : Nat) (t ty : TypeId) (n : Nat) (f : Nat → Value) (d : TypeDesc) (hrow : w.rowIs g t n f)
    (hu : P.underlying ty = some d) (hd : (match d with | .struct _ | .array _ _ => true | _ => false) = true) (hi : (P.info? ty).map (·.size) = some n) :
    (loadVar ty ⟨g, 0, none⟩).run P w = .ok (.agg (arrOf n f)) w := by
  obtain ⟨c, hc, hs, hf⟩ := hrow
  have e := arrOf_eq hs hf
  rw [← e]
  exact run_loadVar_row w g t ty c (0, 0) d hc hu hd (by rw [hs]; exact hi)
end

/-! ### P5, P6: the walks of numberSlots and Lay. -/
/-- Zero cells of an array of numbers; of a layout. -/
def zero46 : Array Value := arrOf 256 (fun _ => .int .i64 0)
def zero48 : Array Value := arrOf 384 (layRow (fun _ => 0) (fun _ => 0) (fun _ => 0))
theorem zeroV46 (w : World) : Sem.run Try.prog (zeroValue 89) w = .ok (.agg zero46) w := by kernel_rfl
theorem zeroV48 (w : World) : Sem.run Try.prog (zeroValue 135) w = .ok (.agg zero48) w := by kernel_rfl
theorem Try.size46 : (Try.prog.info? 89).map (·.size) = some 256 := by kernel_rfl
theorem Try.size48 : (Try.prog.info? 135).map (·.size) = some 384 := by kernel_rfl
theorem row46 (w : World) : (w.alloc (.cells zero46 89)).rowIs w.heap.size 89 256 (fun _ => .int .i64 0) := by
  have h := World.rowIs_alloc w zero46 89 (fun _ => .int .i64 0) (fun i hi => arrOf_get 256 _ i (by simpa [zero46, arrOf_size] using hi))
  simpa [zero46, arrOf_size] using h
theorem row48 (w : World) : Lyt (w.alloc (.cells zero48 135)) w.heap.size (fun _ => 0) (fun _ => 0) (fun _ => 0) := by
  have h := World.rowIs_alloc w zero48 135 (layRow (fun _ => 0) (fun _ => 0) (fun _ => 0)) (fun i hi => arrOf_get 384 _ i (by simpa [zero48, arrOf_size] using hi))
  unfold Lyt
  simpa [zero48, arrOf_size] using h

def natsV (f : Nat → Nat) : Nat → Value := fun i => .int .i64 (f i : Int)

set_option maxRecDepth 100000 in
set_option maxHeartbeats 800000 in
theorem numberSlots_any (b : Nat) (own num shr : Nat → Nat) (w : World) (h : Lyt w b own num shr) (ho : ∀ s, own s < 256) (hs : ∀ v, shr v ≤ 255) :
    Calls Try.prog 79 #[.pointer (some ⟨b, 0, none⟩)] w fun e w' => e = .returned (.tuple #[]) ∧ Lyt w' b own (numO own shr) shr ∧ Below b w w' := by
  have hbs : b < w.heap.size := World.rowIs.lt h
  have hz := zeroV46
  have HL := hid (fun i (hi : i < 256) => h.shrC hi)
  have HO := hid ho
  have HS := hid hs
  clear ho hs
  go_enter Try.func79, Try.ntmps79
  go_wp2_with (first
    | (refine wpList_load_part rfl 89 (.tmp 7) rfl b 128 rfl 256 (natsV shr) _ HL.out Try.underlying89 rfl Try.size46 ?_)
    | (refine wpList_store_rowIs rfl 89 (.tmp 2) (.tmp 8) rfl w.heap.size rfl 89 256 (fun _ => .int .i64 0) (natsV shr) (row46 _) rfl Try.size46 (fun _ _ => rfl) ?_; intro w1 r1 b1 o1 s1))
  have h1 : Lyt w1 b own num shr := World.rowIs.of_block h (by rw [o1 b (by omega)]; exact Below.heap_alloc _ _ _ hbs)
  have bel1 : Below b w w1 := ((Below.refl b w).alloc (by omega) _).trans (b1.mono (by omega))
  have s1' : w1.heap.size = w.heap.size + 1 := by simpa using s1
  clear h HL hz b1 o1 s1
  go_loopw [3, 4] (fun i _ wr => ∃ k : Nat, k ≤ 64 ∧ i = .int .i64 k ∧ Lyt wr b own (fun s => if s < k then numO own shr s else num s) shr ∧ wr.rowIs w.heap.size 89 256 (natsV (fun v => shr v + cntO own v k)) ∧ Below b w wr) (fun i _ _ => 64 - (intOf i).toNat)
  case atStart => exact ⟨0, Nat.zero_le _, rfl, h1.congr (fun _ _ => rfl) (fun s _ => by simp) (fun _ _ => rfl), r1, bel1⟩
  case round =>
    obtain ⟨k, hk, rfl, hl, hr, hbel⟩ := hrel
    by_cases hlt : k < 64
    · have c1 := hl.ownC hlt
      have hov := HO.out k
      have c2 : wr.cell? ⟨w.heap.size, own k, none⟩ = some (.int .i64 (numO own shr k : Int)) := World.rowIs.cell hr (i := own k) hov
      have f2 := World.rowIs.frozen hr (own k)
      have c3 := hl.numC hlt
      have f3 := World.rowIs.frozen hl (64 + k)
      have hx : numO own shr k ≤ 320 := by
        have := HS.out (own k); have := cntO_le own (own k) k; unfold numO; omega
      have HN := hid (fun s (hs : s < 64) => show (if s = k then numO own shr k else if s < k then numO own shr s else num s) = if s < k + 1 then numO own shr s else num s from by
        by_cases e : s = k
        · subst e; rw [if_pos rfl, if_pos (by omega)]
        · rw [if_neg e]
          by_cases e2 : s < k
          · rw [if_pos e2, if_pos (by omega)]
          · rw [if_neg e2, if_neg (by omega)])
      have HC := hid (fun v => show (if v = own k then numO own shr k + 1 else shr v + cntO own v k) = shr v + cntO own v (k + 1) from by
        rw [cntO]
        by_cases e : v = own k
        · rw [if_pos e, if_pos e.symm, e]; unfold numO; omega
        · rw [if_neg e, if_neg (fun q => e q.symm)]; rfl)
      generalize numO own shr k = x at *
      go_wp2_with fail
      go_region
      go_wp2
      go_roundw
      case rel =>
        refine ⟨k + 1, by omega, by go_num, ?_, ?_, ((hbel.setCell (Nat.le_refl _) _).setCell (by show b ≤ w.heap.size; omega) _).drew⟩
        · have q : Lyt _ b own _ shr := World.rowIs.drew (World.rowIs.setOther (hl.setNum hlt x) (a := ⟨w.heap.size, own k, none⟩) (by show b ≠ w.heap.size; omega) (.int .i64 ((x : Int) + 1)))
          exact q.congr (fun _ _ => rfl) HN.out (fun _ _ => rfl)
        · refine World.rowIs.drew (World.rowIs.congr (World.rowIs.set (World.rowIs.setOther hr (a := ⟨b, 64 + k, none⟩) (by show w.heap.size ≠ b; omega) (.int .i64 (x : Int))) (own k) (.int .i64 ((x : Int) + 1))) fun j _ => ?_)
          simp only [natsV]
          rw [← HC.out j]
          split <;> simp
      case measure => simp [intOf]; omega
    · have HK := hid (show k = 64 from by omega)
      go_wp2
      go_end0
      refine ⟨rfl, hl.congr (fun _ _ => rfl) (fun s hs => by rw [if_pos (by rw [HK.out]; exact hs)]) (fun _ _ => rfl), hbel⟩

/-! ### P5, P6: the walk of Lay. -/
def zeroRow : Nat → Value := layRow (fun _ => 0) (fun _ => 0) (fun _ => 0)
def tabRow (t : ByteArray) : Nat → Value := layRow (tOwn t) (tNum t) (tShr t)
theorem layRow_one (own num shr : Nat → Nat) (i : Nat) : (layRow own num shr i).oneCell' = true := by
  unfold layRow; split
  · rfl
  · split <;> rfl

set_option maxRecDepth 100000 in
set_option maxHeartbeats 800000 in
theorem lay_no (t : ByteArray) (w : World) (ht : t.size ≤ maxLen) (h : isTB t = false) :
    Calls Try.prog 72 #[.string t] w fun e w' => e = .returned (.tuple #[.agg (arrOf 384 zeroRow), .bool false]) ∧ Below w.heap.size w w' := by
  have hz := zeroV48
  have HC := hid (isTable_any t ((w.alloc (.cells zero48 135)).alloc (.cells zero48 135)) ht)
  rw [h] at HC
  clear h
  have r0 : ((w.alloc (.cells zero48 135)).alloc (.cells zero48 135)).rowIs w.heap.size 135 384 zeroRow := World.rowIs.alloc (row48 w) (.cells zero48 135)
  have r1 : ((w.alloc (.cells zero48 135)).alloc (.cells zero48 135)).rowIs (w.heap.size + 1) 135 384 zeroRow := by
    have := row48 (w.alloc (.cells zero48 135))
    rw [World.size_alloc] at this
    exact this
  go_enter Try.func72, Try.ntmps72
  go_wp2_with (first
    | (go_at_call 29; refine Calls.mono HC.out ?_; rintro e w' ⟨rfl, rfl⟩)
    | (refine wpList_load_rowIs rfl 135 (.tmp 4) rfl (w.heap.size + 1) rfl 135 384 zeroRow r1 _ Try.underlying135 rfl Try.size48 ?_)
    | (refine wpList_store_rowIs rfl 135 (.tmp 2) (.tmp 13) rfl w.heap.size rfl 135 384 zeroRow zeroRow r0 rfl Try.size48 (fun i _ => layRow_one _ _ _ i) ?_; intro w1 q1 b1 o1 s1))
  have hr := run_loadVar_rowIs (P := Try.prog) w1 w.heap.size 135 135 384 zeroRow _ q1 Try.underlying135 rfl Try.size48
  refine bodyPost_ret (v := .tuple #[.agg (arrOf 384 zeroRow), .bool false]) ?_ rfl ⟨rfl, ?_⟩
  · simp [results, Try.results72, asAddr, hr]
  · exact (((Below.refl _ _).alloc (Nat.le_refl _) _).alloc (by simp) _).trans b1

set_option maxRecDepth 100000 in
set_option maxHeartbeats 1600000 in
theorem lay_yes (t : ByteArray) (w : World) (ht : t.size ≤ maxLen) (h : isTB t = true) :
    Calls Try.prog 72 #[.string t] w fun e w' => e = .returned (.tuple #[.agg (arrOf 384 (tabRow t)), .bool true]) ∧ Below w.heap.size w w' := by
  obtain ⟨hev, hgood, htot⟩ := isTB_yes h
  have hlong : t.size ≤ 128 := by
    have := totS_ge hgood
    omega
  have HTM := hid (fun k (hk : k ≤ t.size / 2) => show totS t k ≤ 64 from htot ▸ totS_mono t hk)
  have hb := get_btn t
  have hz := zeroV48
  have HC := hid (isTable_any t ((w.alloc (.cells zero48 135)).alloc (.cells zero48 135)) ht)
  rw [h] at HC
  clear h hgood htot
  have r0 : ((w.alloc (.cells zero48 135)).alloc (.cells zero48 135)).rowIs w.heap.size 135 384 zeroRow := World.rowIs.alloc (row48 w) (.cells zero48 135)
  have r1 : Lyt ((w.alloc (.cells zero48 135)).alloc (.cells zero48 135)) (w.heap.size + 1) (fun _ => 0) (fun _ => 0) (fun _ => 0) := by
    have := row48 (w.alloc (.cells zero48 135))
    rw [World.size_alloc] at this
    exact this
  have bel0 : Below w.heap.size w ((w.alloc (.cells zero48 135)).alloc (.cells zero48 135)) := ((Below.refl _ _).alloc (Nat.le_refl _) _).alloc (by simp) _
  go_enter Try.func72, Try.ntmps72
  go_wp2_with (go_at_call 29; refine Calls.mono HC.out ?_; rintro e w' ⟨rfl, rfl⟩)
  clear HC hz
  generalize ((w.alloc (.cells zero48 135)).alloc (.cells zero48 135)) = W at *
  go_loopw [5, 6, 7, 8, 9] (fun pl i _ _ _ wr => ∃ k : Nat, 2 * k ≤ t.size ∧ i = .int .i64 (2 * (k : Int)) ∧ pl = .int .i64 ((rowTo t k).length : Int) ∧ Lyt wr (w.heap.size + 1) (ownL (rowTo t k)) (fun _ => 0) (shTab t k) ∧ Below (w.heap.size + 1) W wr) (fun _ i _ _ _ _ => t.size - (intOf i).toNat)
  case atStart => exact ⟨0, Nat.zero_le _, rfl, rfl, r1.congr (fun s _ => by simp [ownL, rowTo]) (fun _ _ => rfl) (fun _ _ => rfl), Below.refl _ _⟩
  case round =>
    obtain ⟨k, hk, rfl, rfl, hl, hbel⟩ := hrel
    by_cases hlt : 2 * k + 1 < t.size
    · have b1 := btn_lt t (2 * k)
      have b2 := btn_lt t (2 * k + 1)
      have c1 := hl.shrC b1
      have f1 := World.rowIs.frozen hl (128 + btn t (2 * k))
      have HR := hid (show rowTo t (k + 1) = rowTo t k ++ List.replicate (btn t (2 * k + 1)) (btn t (2 * k)) from rfl)
      have hle : (rowTo t k).length + btn t (2 * k + 1) ≤ 64 := by
        have := HTM.out (k + 1) (by omega)
        rw [totS] at this
        rw [rowTo_len]; omega
      have hl2 : Lyt _ (w.heap.size + 1) (ownL (rowTo t k)) (fun _ => 0) (shTab t (k + 1)) := (hl.setShr b1 (btn t (2 * k + 1))).congr (fun _ _ => rfl) (fun _ _ => rfl) (fun v _ => (shTab_step t k v).symm)
      have HL2 := hid hl2
      have bel2 := hid (hbel.setCell (p := ⟨w.heap.size + 1, 128 + btn t (2 * k), none⟩) (Nat.le_refl _) (.int .i64 (btn t (2 * k + 1) : Int)))
      clear hl hl2 hbel
      go_wp2_with fail
      go_loopw [5, 9] (fun pl j wr => ∃ (i : Nat) (ps : List Nat), i ≤ btn t (2 * k + 1) ∧ ps = rowTo t k ++ List.replicate i (btn t (2 * k)) ∧ j = .int .i64 i ∧ pl = .int .i64 (ps.length : Int) ∧ Lyt wr (w.heap.size + 1) (ownL ps) (fun _ => 0) (shTab t (k + 1)) ∧ Below (w.heap.size + 1) W wr) (fun _ j _ => 256 - (intOf j).toNat)
      case atStart => exact ⟨0, rowTo t k, Nat.zero_le _, by simp, rfl, rfl, HL2.out, bel2.out⟩
      case round =>
        obtain ⟨i, ps, hi, hps, rfl, rfl, hl3, bel3⟩ := hrel
        have hpl : ps.length = (rowTo t k).length + i := by rw [hps]; simp
        have HPS := hid hps
        have hple : ps.length ≤ 64 := by omega
        by_cases hj : i < btn t (2 * k + 1)
        · have hpl2 : ps.length < 64 := by omega
          have c4 := hl3.ownC (s := 43 * ps.length % 64) (by omega)
          have f4 := World.rowIs.frozen hl3 (43 * ps.length % 64)
          have HO := hid (fun s (hs : s < 64) => ownL_push ps (btn t (2 * k)) s hs hpl2)
          have HPL := hid (show (ps ++ [btn t (2 * k)]).length = ps.length + 1 from by simp)
          have HQ := hid (show ps ++ [btn t (2 * k)] = rowTo t k ++ List.replicate (i + 1) (btn t (2 * k)) from by rw [hps, List.append_assoc, List.replicate_succ'])
          clear hps hpl
          have hm : 43 * ps.length % 64 < 64 := by omega
          generalize hpn : ps.length = p at *
          have HPN := hid hpn
          clear hpn
          go_wp2
          go_roundw
          case rel =>
            refine ⟨i + 1, ps ++ [btn t (2 * k)], by omega, HQ.out, by go_num, by rw [HPL.out]; go_num, ?_, bel3.setCell (Nat.le_refl _) _⟩
            exact (hl3.setOwn (s := 43 * p % 64) hm (btn t (2 * k))).congr (fun s hs => HO.out s hs) (fun _ _ => rfl) (fun _ _ => rfl)
          case measure => simp [intOf]; omega
        · have HI := hid (show i = btn t (2 * k + 1) from by omega)
          have HPR := hid (show ps = rowTo t (k + 1) from by rw [HR.out, hps, HI.out])
          clear hps hpl
          go_wp2
          go_roundw
          case rel =>
            rw [HPR.out] at hl3 ⊢
            exact ⟨k + 1, by omega, by go_num, rfl, hl3, bel3⟩
          case measure => simp [intOf]; omega
    · have HK := hid (show k = t.size / 2 from by omega)
      rw [HK.out] at hl
      have hnum := hid (numberSlots_any (w.heap.size + 1) _ _ _ wr hl (tOwn_lt t) (fun v => shTab_le v))
      clear hl
      go_wp2_with fail
      refine Calls.mono hnum.out ?_
      rintro e w3 ⟨rfl, hl3, bel3⟩
      have hq : w3.rowIs (w.heap.size + 1) 135 384 (tabRow t) := hl3
      have bel4 : Below (w.heap.size + 1) W w3 := hbel.trans bel3
      have hq0 : w3.rowIs w.heap.size 135 384 zeroRow := World.rowIs.of_block r0 (bel4.block _ (by omega))
      clear hl3 bel3 hnum r0 r1 hbel HTM hb
      go_wp2_with (first
        | (refine wpList_load_rowIs rfl 135 (.tmp 4) rfl (w.heap.size + 1) rfl 135 384 (tabRow t) hq _ Try.underlying135 rfl Try.size48 ?_)
        | (refine wpList_store_rowIs rfl 135 (.tmp 2) (.tmp 47) rfl w.heap.size rfl 135 384 zeroRow (tabRow t) hq0 rfl Try.size48 (fun i _ => layRow_one _ _ _ i) ?_; intro w5 q5 b5 o5 s5))
      have hr := run_loadVar_rowIs (P := Try.prog) w5 w.heap.size 135 135 384 (tabRow t) _ q5 Try.underlying135 rfl Try.size48
      refine bodyPost_ret (v := .tuple #[.agg (arrOf 384 (tabRow t)), .bool true]) ?_ rfl ⟨rfl, ?_⟩
      · simp [results, Try.results72, asAddr, hr]
      · exact (bel0.trans (bel4.mono (by omega))).trans b5
end Go.Proofs.Ytnconbpneimjiaa

/-
  P12: the walks of bodies.readText, readStep, readSteps.
  P12: the walk of bodies.readSteps.
  P12: the walk of bodies.readLoose.
-/
import Derived.Test.YtnconbpneimjiaaOwnBel
import Derived.Test.YtnconbpneimjiaaPlyMath
import Derived.Test.YtnconbpneimjiaaBodWrite
import Derived.Test.YtnconbpneimjiaaUnsWalk
namespace Go.Proofs.Ytnconbpneimjiaa
open Go.RowKit Go.PlainAid

/-! ### P12: the walks of bodies.readText, readStep, readSteps. -/
set_option maxRecDepth 100000 in
set_option maxHeartbeats 400000 in
theorem rtext_yes (b : ByteArray) (p n : Nat) (w : World) (hb : b.size ≤ 2000) (h : p + n ≤ b.size) :
    Calls Try.prog 75 #[.string b, .int .i64 (p : Int), .int .i64 (n : Int)] w fun e w' => e = .returned (.tuple #[.string (b.extract p (p + n)), .int .i64 ((p : Int) + (n : Int)), .bool true]) ∧ w' = w := by
  have d0 : decide ((p : Int) < 0) = false := by simp
  have d1 : decide ((b.size : Int) < (p : Int)) = false := by simp; omega
  have d2 : decide ((n : Int) < 0) = false := by simp
  have d3 : decide ((b.size : Int) - (p : Int) < (n : Int)) = false := by simp; omega
  go_enter Try.func75, Try.ntmps75
  go_wp2
  go_ret3
  exact ⟨rfl, rfl⟩
set_option maxRecDepth 100000 in
set_option maxHeartbeats 400000 in
theorem rtext_no (b : ByteArray) (p n : Nat) (w : World) (_hb : b.size ≤ 2000) (hp : p ≤ b.size) (hn : n ≤ 20000) (h : ¬ p + n ≤ b.size) :
    Calls Try.prog 75 #[.string b, .int .i64 (p : Int), .int .i64 (n : Int)] w fun e w' => e = .returned (.tuple #[.string ⟨#[]⟩, .int .i64 0, .bool false]) ∧ w' = w := by
  have d0 : decide ((p : Int) < 0) = false := by simp
  have d1 : decide ((b.size : Int) < (p : Int)) = false := by simp; omega
  have d2 : decide ((n : Int) < 0) = false := by simp
  have d3 : decide ((b.size : Int) - (p : Int) < (n : Int)) = true := by simp; omega
  go_enter Try.func75, Try.ntmps75
  go_wp2
  go_ret3
  exact ⟨rfl, rfl⟩

/-- A copy's cells, as a row. -/
def tRow (a l d : Int) (j : Nat) : Value := .int .i64 (if j = 0 then a else if j = 1 then l else d)
theorem tRow_one (a l d : Int) (j : Nat) : (tRow a l d j).oneCell' = true := rfl
theorem tRow_new (w : World) : (w.alloc (.cells #[.int .i64 0, .int .i64 0, .int .i64 0] 125)).rowIs w.heap.size 125 3 (tRow 0 0 0) :=
  World.rowIs_alloc w #[.int .i64 0, .int .i64 0, .int .i64 0] 125 (tRow 0 0 0) (fun i hi => by
    have hi' : i < 3 := hi
    match i, hi' with
    | 0, _ => rfl
    | 1, _ => rfl
    | 2, _ => rfl)
theorem sizeStep : (Try.prog.info? 125).map (·.size) = some 3 := by kernel_rfl
def stpV (a l d : Int) : Value := .agg #[.int .i64 a, .int .i64 l, .int .i64 d]
theorem crV_no' {q : Nat × Int} (h : q.2 < 0) : crV q = .tuple #[.int .i64 0, .int .i64 0, .bool false] := crV_no h

set_option maxRecDepth 100000 in
set_option maxHeartbeats 1600000 in
theorem rstep_no (b : ByteArray) (a : Int) (w : World) (hb : b.size ≤ 1000) (ha : a ≤ 1000) (h : (rsAt b a).2 < 0) :
    Calls Try.prog 77 #[.string b, .int .i64 a] w fun e w' => e = .returned (.tuple #[stpV 0 0 0, .int .i64 0, .bool false]) ∧ Below w.heap.size w w' := by
  have R1 := hid (fun w => cread_any b a w (by omega) (by omega))
  have B1 := ctAt_bd b a
  have h' : (ctAt b (ctAt b (ctAt b a).2).2).2 < 0 := h
  have hq := tRow_new w
  have hbq : Below w.heap.size w (w.alloc (.cells #[.int .i64 0, .int .i64 0, .int .i64 0] 125)) := (Below.refl _ _).alloc (Nat.le_refl _) _
  clear h
  generalize ctAt b a = q1 at *
  obtain ⟨x1, p1⟩ := q1
  simp only at B1 h'
  by_cases e1 : p1 < 0
  · rw [crV_no e1] at R1
    clear h'
    go_enter Try.func77, Try.ntmps77
    go_wp2_with fail
    refine Calls.mono (R1.out _) ?_
    rintro e w1 ⟨rfl, k1⟩
    rw [k1]
    clear k1 w1
    go_wp2_with (refine wpList_store_rowIs rfl 125 (.tmp 4) (.tmp 25) rfl w.heap.size rfl 125 3 (tRow 0 0 0) (tRow 0 0 0) hq rfl sizeStep (fun i _ => tRow_one _ _ _ i) ?_; intro w5 q5 b5 o5 s5)
    have hr := run_loadVar_rowIs (P := Try.prog) w5 w.heap.size 125 125 3 (tRow 0 0 0) _ q5 Try.underlying125 rfl sizeStep
    refine bodyPost_ret (v := .tuple #[.agg (arrOf 3 (tRow 0 0 0)), .int .i64 0, .bool false]) ?_ rfl ⟨rfl, ?_⟩
    · simp [results, Try.results77, asAddr, hr]
    · exact hbq.trans b5
  · rw [crV_yes e1] at R1
    have R2 := hid (fun w => cread_any b p1 w (by omega) (by omega))
    have B2 := ctAt_bd b p1
    generalize ctAt b p1 = q2 at *
    obtain ⟨x2, p2⟩ := q2
    simp only at B2 h' R1
    by_cases e2 : p2 < 0
    · rw [crV_no e2] at R2
      clear h'
      go_enter Try.func77, Try.ntmps77
      go_wp2_with fail
      refine Calls.mono (R1.out _) ?_
      rintro e w1 ⟨rfl, k1⟩
      rw [k1]
      clear k1 w1
      go_wp2_with fail
      refine Calls.mono (R2.out _) ?_
      rintro e w1 ⟨rfl, k1⟩
      rw [k1]
      clear k1 w1
      go_wp2_with (refine wpList_store_rowIs rfl 125 (.tmp 4) (.tmp 35) rfl w.heap.size rfl 125 3 (tRow 0 0 0) (tRow 0 0 0) hq rfl sizeStep (fun i _ => tRow_one _ _ _ i) ?_; intro w5 q5 b5 o5 s5)
      have hr := run_loadVar_rowIs (P := Try.prog) w5 w.heap.size 125 125 3 (tRow 0 0 0) _ q5 Try.underlying125 rfl sizeStep
      refine bodyPost_ret (v := .tuple #[.agg (arrOf 3 (tRow 0 0 0)), .int .i64 0, .bool false]) ?_ rfl ⟨rfl, ?_⟩
      · simp [results, Try.results77, asAddr, hr]
      · exact hbq.trans b5
    · rw [crV_yes e2] at R2
      have R3 := hid (fun w => cread_any b p2 w (by omega) (by omega))
      rw [crV_no h'] at R3
      simp only at R2
      go_enter Try.func77, Try.ntmps77
      go_wp2_with fail
      refine Calls.mono (R1.out _) ?_
      rintro e w1 ⟨rfl, k1⟩
      rw [k1]
      clear k1 w1
      go_wp2_with fail
      refine Calls.mono (R2.out _) ?_
      rintro e w1 ⟨rfl, k1⟩
      rw [k1]
      clear k1 w1
      go_wp2_with fail
      refine Calls.mono (R3.out _) ?_
      rintro e w1 ⟨rfl, k1⟩
      rw [k1]
      clear k1 w1
      go_wp2_with (refine wpList_store_rowIs rfl 125 (.tmp 4) (.tmp 45) rfl w.heap.size rfl 125 3 (tRow 0 0 0) (tRow 0 0 0) hq rfl sizeStep (fun i _ => tRow_one _ _ _ i) ?_; intro w5 q5 b5 o5 s5)
      have hr := run_loadVar_rowIs (P := Try.prog) w5 w.heap.size 125 125 3 (tRow 0 0 0) _ q5 Try.underlying125 rfl sizeStep
      refine bodyPost_ret (v := .tuple #[.agg (arrOf 3 (tRow 0 0 0)), .int .i64 0, .bool false]) ?_ rfl ⟨rfl, ?_⟩
      · simp [results, Try.results77, asAddr, hr]
      · exact hbq.trans b5

set_option maxRecDepth 100000 in
set_option maxHeartbeats 1600000 in
theorem rstep_yes (b : ByteArray) (a : Int) (w : World) (hb : b.size ≤ 1000) (ha : a ≤ 1000) (h : ¬ (rsAt b a).2 < 0) :
    Calls Try.prog 77 #[.string b, .int .i64 a] w fun e w' => e = .returned (.tuple #[stpV ((rsAt b a).1.1 : Int) ((rsAt b a).1.2.1 : Int) ((rsAt b a).1.2.2 : Int), .int .i64 (rsAt b a).2, .bool true]) ∧ Below w.heap.size w w' := by
  have R1 := hid (fun w => cread_any b a w (by omega) (by omega))
  have B1 := ctAt_bd b a
  have h' : ¬ (ctAt b (ctAt b (ctAt b a).2).2).2 < 0 := h
  have HE := hid (show rsAt b a = (((ctAt b a).1, (ctAt b (ctAt b a).2).1 + 4, (ctAt b (ctAt b (ctAt b a).2).2).1), (ctAt b (ctAt b (ctAt b a).2).2).2) from rfl)
  have hq := tRow_new w
  have hbq : Below w.heap.size w (w.alloc (.cells #[.int .i64 0, .int .i64 0, .int .i64 0] 125)) := (Below.refl _ _).alloc (Nat.le_refl _) _
  rw [HE.out]
  clear h HE
  generalize ctAt b a = q1 at *
  obtain ⟨x1, p1⟩ := q1
  simp only at B1 h' ⊢
  have R2 := hid (fun w => cread_any b p1 w (by omega) (by omega))
  have B2 := ctAt_bd b p1
  have hp1 : ¬ p1 < 0 := by
    intro q
    have e : ctAt b p1 = (0, -1) := by unfold ctAt; rw [if_pos (Or.inl q)]
    have e2 : ctAt b (-1) = (0, -1) := by unfold ctAt; rw [if_pos (Or.inl (by omega))]
    rw [e] at h'
    simp only [e2] at h'
    omega
  rw [crV_yes hp1] at R1
  generalize ctAt b p1 = q2 at *
  obtain ⟨x2, p2⟩ := q2
  simp only at B2 h' R1 ⊢
  have R3 := hid (fun w => cread_any b p2 w (by omega) (by omega))
  have B3 := ctAt_bd b p2
  have hp2 : ¬ p2 < 0 := by
    intro q
    have e : ctAt b p2 = (0, -1) := by unfold ctAt; rw [if_pos (Or.inl q)]
    rw [e] at h'
    simp only at h'
    omega
  rw [crV_yes hp2] at R2
  rw [crV_yes h'] at R3
  generalize ctAt b p2 = q3 at *
  obtain ⟨x3, p3⟩ := q3
  simp only at B3 h' R2 R3 ⊢
  go_enter Try.func77, Try.ntmps77
  go_wp2_with fail
  refine Calls.mono (R1.out _) ?_
  rintro e w1 ⟨rfl, k1⟩
  rw [k1]
  clear k1 w1
  go_wp2_with fail
  refine Calls.mono (R2.out _) ?_
  rintro e w1 ⟨rfl, k1⟩
  rw [k1]
  clear k1 w1
  go_wp2_with fail
  refine Calls.mono (R3.out _) ?_
  rintro e w1 ⟨rfl, k1⟩
  rw [k1]
  clear k1 w1
  go_wp2_with (refine wpList_store_rowIs rfl 125 (.tmp 4) (.tmp 50) rfl w.heap.size rfl 125 3 (tRow 0 0 0) (tRow (x1 : Int) ((x2 : Int) + 4) (x3 : Int)) hq rfl sizeStep (fun i _ => tRow_one _ _ _ i) ?_; intro w5 q5 b5 o5 s5)
  have hr := run_loadVar_rowIs (P := Try.prog) w5 w.heap.size 125 125 3 (tRow (x1 : Int) ((x2 : Int) + 4) (x3 : Int)) _ q5 Try.underlying125 rfl sizeStep
  refine bodyPost_ret (v := .tuple #[.agg (arrOf 3 (tRow (x1 : Int) ((x2 : Int) + 4) (x3 : Int))), .int .i64 p3, .bool true]) ?_ rfl ⟨rfl, ?_⟩
  · simp [results, Try.results77, asAddr, hr]
  · exact hbq.trans b5

/-! ### P12: the walk of bodies.readSteps. -/
/-- What readSteps hands back: the copies, or that there are none such. -/
def rsRel (w : World) (base : Nat) (o : Option (List (Nat × Nat × Nat))) (e : Ending) : Prop := ∃ v bb, e = .returned (.tuple #[v, .bool bb]) ∧ ((bb = false ∧ o = none) ∨ (bb = true ∧ ∃ l, o = some l ∧ w.ownsRow base 125 3 v l.length (stCells l)))
theorem stAns_neg {b : ByteArray} {a : Int} (h : (ctAt b a).2 < 0) : stAns b a = none := by unfold stAns; rw [if_pos h]
theorem stAns_go {b : ByteArray} {a : Int} (h : ¬ (ctAt b a).2 < 0) : stAns b a = match rsL b (ctAt b a).1 (ctAt b a).2 with
    | none => none
    | some (l, e) => if e = (b.size : Int) then some l else none := by unfold stAns; rw [if_neg h]; rfl

set_option maxRecDepth 100000 in
set_option maxHeartbeats 1600000 in
theorem rsteps_any (b : ByteArray) (a : Int) (w : World) (hb : b.size ≤ 1000) (ha : a ≤ 1000) :
    Calls Try.prog 69 #[.string b, .int .i64 a] w fun e w' => rsRel w' w.heap.size (stAns b a) e ∧ Below w.heap.size w w' := by
  have R1 := hid (fun w => cread_any b a w (by omega) (by omega))
  have B1 := ctAt_bd b a
  by_cases h0 : (ctAt b a).2 < 0
  · have HS := hid (stAns_neg h0)
    rw [crV_no h0] at R1
    rw [HS.out]
    clear HS
    go_enter Try.func69, Try.ntmps69
    go_wp2_with fail
    refine Calls.mono (R1.out _) ?_
    rintro e w1 ⟨rfl, k1⟩
    rw [k1]
    clear k1 w1
    go_wp2
    go_ret2
    exact ⟨⟨_, _, rfl, .inl ⟨rfl, rfl⟩⟩, Below.refl _ _⟩
  · have HS := hid (stAns_go h0)
    rw [crV_yes h0] at R1
    generalize stAns b a = O at *
    generalize ctAt b a = q at *
    obtain ⟨n, a1⟩ := q
    simp only at B1 h0 HS R1
    obtain ⟨i1, gi, gz0, gz1, gz2⟩ := info_parts Try.infoStep
    have HNO := hid (fun a w (ha : a ≤ 1000) h => rstep_no b a w hb ha h)
    have HYES := hid (fun a w (ha : a ≤ 1000) (h : 0 ≤ (rsAt b a).2) => rstep_yes b a w hb ha (by omega))
    have HJN := hid (fun st m a h => rsJ_no b st m a h)
    have HJX := hid (fun st m a (h : 0 ≤ (rsAt b a).2) => rsJ_next b st m a (by omega))
    have HJE := hid (fun st a => rsJ_end b st a)
    have HJ0 := hid (rsJ_nil (rsL b n a1)).symm
    have HBD := hid (fun a => rsAt_bd b a)
    generalize rsAt b = RS at *
    generalize rsL b = RL at *
    go_enter Try.func69, Try.ntmps69
    go_wp2_with fail
    refine Calls.mono (R1.out _) ?_
    rintro e w1 ⟨rfl, k1⟩
    rw [k1]
    clear k1 w1
    go_wp2_with fail
    go_loopw [7, 9, 10, 11, 12, 13] (fun av sv iv _ _ _ wr => ∃ (i m : Nat) (x : Int) (st : List (Nat × Nat × Nat)), i + m = n ∧ st.length = i ∧ av = .int .i64 x ∧ x ≤ 1000 ∧ 0 ≤ x ∧ iv = .int .i64 i ∧ wr.ownsRow w.heap.size 125 3 sv i (stCells st) ∧ RL n a1 = rsJ st (RL m x) ∧ Below w.heap.size w wr) (fun _ _ iv _ _ _ _ => n - (intOf iv).toNat)
    case atStart => exact ⟨0, n, a1, [], by omega, rfl, rfl, by omega, by omega, rfl, World.ownsRow_nil _ _ _ _, HJ0.out, Below.refl _ _⟩
    case round =>
      obtain ⟨i, m, x, st, him, hst, rfl, hx1, hx0, rfl, hown, hJ, hbel⟩ := hrel
      have HIM := hid him
      have HST := hid hst
      have HJ := hid hJ
      have hsz := hbel.size
      clear hJ hst
      by_cases hlt : i < n
      · obtain ⟨m', rfl⟩ : ∃ m', m = m' + 1 := ⟨m - 1, by omega⟩
        have hlt' : (i : Int) < (n : Int) := by omega
        have hbd := HBD.out x
        by_cases hneg : (RS x).2 < 0
        · have HN := hid (HS.out.trans (by rw [HJ.out, HJN.out st m' x hneg] : _ = none))
          have hc := hid (HNO.out x wr hx1 hneg)
          have hq := fun w => tRow_new w
          clear him
          go_wp2_with fail
          refine Calls.mono hc.out ?_
          rintro e w2 ⟨rfl, b2⟩
          have hq2 := tRow_new w2
          go_wp2_with (refine wpList_store_rowIs rfl 125 (.tmp 11) (.tmp 32) rfl w2.heap.size rfl 125 3 (tRow 0 0 0) (tRow 0 0 0) hq2 rfl sizeStep (fun i _ => tRow_one _ _ _ i) ?_; intro w5 q5 b5 o5 s5)
          go_ret2
          refine ⟨⟨_, _, rfl, .inl ⟨rfl, HN.out⟩⟩, ?_⟩
          have B2 := hbel.trans (b2.mono hsz)
          exact (B2.alloc B2.size _).trans (b5.mono B2.size)
        · have HX := hid (HJ.out.trans (HJX.out st m' x (by omega)))
          have hc := hid (HYES.out x wr hx1 (by omega))
          obtain ⟨hg, hpl⟩ := hbd
          obtain ⟨g1, g2, g3⟩ := hg
          generalize RS x = qx at *
          obtain ⟨⟨y1, y2, y3⟩, p⟩ := qx
          simp only at g1 g2 g3 hpl hneg HX hc
          clear HJ him
          go_wp2_with fail
          refine Calls.mono hc.out ?_
          rintro e w2 ⟨rfl, b2⟩
          have hq2 := tRow_new w2
          have B2 := hbel.trans (b2.mono hsz)
          have hs2 := B2.size
          go_wp2_with (first
            | (refine wpList_store_rowIs rfl 125 (.tmp 11) (.tmp 32) rfl w2.heap.size rfl 125 3 (tRow 0 0 0) (tRow (y1 : Int) (y2 : Int) (y3 : Int)) hq2 rfl sizeStep (fun i _ => tRow_one _ _ _ i) ?_
               intro w5 q5 b5 o5 s5
               have c0 : w5.cell? ⟨w2.heap.size, 0, none⟩ = some (.int .i64 (y1 : Int)) := World.rowIs.cell q5 (i := 0) (by omega)
               have c1 : w5.cell? ⟨w2.heap.size, 1, none⟩ = some (.int .i64 (y2 : Int)) := World.rowIs.cell q5 (i := 1) (by omega)
               have c2 : w5.cell? ⟨w2.heap.size, 2, none⟩ = some (.int .i64 (y3 : Int)) := World.rowIs.cell q5 (i := 2) (by omega)
               have B5 := hid ((B2.alloc B2.size (.cells #[.int .i64 0, .int .i64 0, .int .i64 0] 125)).trans (b5.mono B2.size))
               have hs5 := B5.out.size
               have hown5 := hid (own_below hown ((b2.alloc b2.size (.cells #[.int .i64 0, .int .i64 0, .int .i64 0] 125)).trans (b5.mono b2.size)))
               clear b5 q5 o5 s5)
            | (at_builtin; refine wpList_append_own _ rfl (.tmp 37) (.tmp 39) 119 rfl w.heap.size 125 i1 (.agg #[.int .i64 0, .int .i64 0, .int .i64 0]) 3 24 Try.underlying119 gi gz0 gz1 gz2 rfl (by decide) _ _ _ rfl (hown5.out.alloc _) ⟨_, 0, none⟩ 1 1 [.int .i64 (y1 : Int), .int .i64 (y2 : Int), .int .i64 (y3 : Int)] rfl rfl (cell_three_at _ _ _ _ _) (by intro u hu; simp at hu; rcases hu with rfl | rfl | rfl <;> rfl) (by unfold maxLen; omega) (by omega) (by simp; omega) ?_; intro v' w7 hown' hgrow _))
          go_roundw
          case rel =>
            have hown8 : w7.ownsRow w.heap.size 125 3 v' (i + 1) (stCells (st ++ [(y1, y2, y3)])) := by rw [stCells_app]; exact hown'
            have bel8 := (B5.out.alloc B5.out.size _).grown hgrow (by simp; omega) (own_base hown5.out)
            have him2 : i + 1 + m' = n := by have := HIM.out; omega
            have hst2 : (st ++ [(y1, y2, y3)]).length = i + 1 := by rw [List.length_append, HST.out]; rfl
            first
              | exact ⟨i + 1, m', p, st ++ [(y1, y2, y3)], him2, hst2, rfl, by omega, by omega, by go_num, hown8, HX.out, bel8⟩
              | ((repeat apply Exists.intro); exact ⟨⟨i + 1, m', p, st ++ [(y1, y2, y3)], him2, hst2, rfl, by omega, by omega, by go_num, hown8, HX.out, bel8⟩, rfl⟩)
          case measure => simp [intOf]; omega
      · have HM := hid (show m = 0 from by omega)
        rw [HM.out] at HJ
        have HN := hid (HS.out.trans (by rw [HJ.out, HJE.out st x] : _ = if x = (b.size : Int) then some st else none))
        have hlt' : ¬ (i : Int) < (n : Int) := by omega
        clear HJ HM him
        rw [← HST.out] at hown
        by_cases hxb : x = (b.size : Int)
        · rw [if_pos hxb] at HN
          have hd : (x == (b.size : Int)) = true := by simp [hxb]
          clear hxb
          go_wp2
          go_ret2
          exact ⟨⟨_, _, rfl, .inr ⟨by first | rfl | exact hd, st, HN.out, hown⟩⟩, hbel⟩
        · rw [if_neg hxb] at HN
          have hd : (x == (b.size : Int)) = false := beq_eq_false_iff_ne.2 hxb
          clear hxb
          go_wp2
          go_ret2
          exact ⟨⟨_, _, rfl, .inl ⟨by first | rfl | exact hd, HN.out⟩⟩, hbel⟩

/-! ### P12: the walk of bodies.readLoose. -/
theorem one_beq (b : ByteArray) (p : Nat) (h : p < b.size) (x : UInt8) : ((b.extract p (p + 1)).toList == [x]) = decide (btn b p = x.toNat) := by
  have e : [x] = (⟨#[x]⟩ : ByteArray).toList := by rw [ByteArray.toList_eq]
  have h1 : (b.extract p (p + 1)).size = 1 := by rw [ext_size _ _ _ (by omega)]; omega
  have h2 : btn (b.extract p (p + 1)) 0 = btn b p := btn_ext b p (p + 1) 0 (by omega) (by omega)
  have h3 : btn (⟨#[x]⟩ : ByteArray) 0 = x.toNat := rfl
  rw [e, text_beq, Bool.eq_iff_iff, decide_eq_true_iff, decide_eq_true_iff]
  constructor
  · intro q
    rw [← h2, q]; exact h3
  · intro q
    refine text_ext (by rw [h1]; rfl) (fun i hi => ?_)
    rw [h1] at hi
    obtain rfl : i = 0 := by omega
    rw [h2, q, h3]
/-- What readLoose hands back. -/
def rlRel (o : Option (ByteArray × Int)) (e : Ending) : Prop := ∃ s a bb, e = .returned (.tuple #[.string s, .int .i64 a, .bool bb]) ∧ ((bb = false ∧ o = none) ∨ (bb = true ∧ o = some (s, a)))

set_option maxRecDepth 100000 in
set_option maxHeartbeats 1600000 in
theorem rloose_any (t b : ByteArray) (w : World) (ht : t.size ≤ maxLen) (hT : isTB t = true) (hb : b.size ≤ 1000) :
    Calls Try.prog 68 #[.string t, .string b] w fun e w' => rlRel (rlAns t b) e ∧ Below w.heap.size w w' := by
  have HL := hid (show rlAns t b = (if (ctAt b 0).2 < 0 ∨ (b.size : Int) ≤ (ctAt b 0).2 then none
    else if btn b (ctAt b 0).2.toNat = 0 then
      if (b.size : Int) - ((ctAt b 0).2 + 1) < ((ctAt b 0).1 : Int) then none else some (b.extract ((ctAt b 0).2.toNat + 1) ((ctAt b 0).2.toNat + 1 + (ctAt b 0).1), (ctAt b 0).2 + 1 + (ctAt b 0).1)
    else if btn b (ctAt b 0).2.toNat ≠ 1 then none
    else if (ctAt b ((ctAt b 0).2 + 1)).2 < 0 ∨ (b.size : Int) - (ctAt b ((ctAt b 0).2 + 1)).2 < ((ctAt b ((ctAt b 0).2 + 1)).1 : Int) then none
    else if (rd t (b.extract (ctAt b ((ctAt b 0).2 + 1)).2.toNat ((ctAt b ((ctAt b 0).2 + 1)).2.toNat + (ctAt b ((ctAt b 0).2 + 1)).1)) (ctAt b 0).1).2 = true then
      some ((rd t (b.extract (ctAt b ((ctAt b 0).2 + 1)).2.toNat ((ctAt b ((ctAt b 0).2 + 1)).2.toNat + (ctAt b ((ctAt b 0).2 + 1)).1)) (ctAt b 0).1).1, (ctAt b ((ctAt b 0).2 + 1)).2 + (ctAt b ((ctAt b 0).2 + 1)).1)
    else none) from rfl)
  have K0 := hid (cread_any b 0 w (by omega) (by omega))
  have hbd := ctAt_bd b 0
  generalize rlAns t b = O at *
  generalize ctAt b 0 = q at *
  obtain ⟨n, a⟩ := q
  simp only at hbd K0 HL
  by_cases h1 : a < 0
  · rw [if_pos (Or.inl h1)] at HL
    rw [crV_no h1] at K0
    go_enter Try.func68, Try.ntmps68
    go_wp2_with fail
    refine Calls.mono K0.out ?_
    rintro e w1 ⟨rfl, k1⟩
    rw [k1]
    clear k1 w1
    go_wp2
    go_ret3
    exact ⟨⟨_, _, _, rfl, .inl ⟨rfl, HL.out⟩⟩, Below.refl _ _⟩
  · rw [crV_yes h1] at K0
    obtain ⟨p, rfl⟩ := Int.eq_ofNat_of_zero_le (show 0 ≤ a by omega)
    simp only [Int.toNat_natCast] at HL
    by_cases h2 : b.size ≤ p
    · rw [if_pos (Or.inr (by omega))] at HL
      have h2' : decide ((b.size : Int) ≤ (p : Int)) = true := by simp; omega
      go_enter Try.func68, Try.ntmps68
      go_wp2_with fail
      refine Calls.mono K0.out ?_
      rintro e w1 ⟨rfl, k1⟩
      rw [k1]
      clear k1 w1
      go_wp2
      go_ret3
      exact ⟨⟨_, _, _, rfl, .inl ⟨rfl, HL.out⟩⟩, Below.refl _ _⟩
    · have h2' : decide ((b.size : Int) ≤ (p : Int)) = false := by simp; omega
      have hpb : p < b.size := by omega
      have hpi : (p : Int) < (b.size : Int) := by omega
      have hp1 : (p : Int) + 1 ≤ (b.size : Int) := by omega
      rw [if_neg (by omega)] at HL
      have hq0 := one_beq b p hpb 0
      have hq1 := one_beq b p hpb 1
      by_cases h4 : btn b p = 0
      · rw [if_pos h4] at HL
        have t0 : ((b.extract p (p + 1)).toList == [0]) = true := by rw [hq0]; simp [h4]
        clear hq0 hq1 h4
        by_cases h5 : (b.size : Int) - ((p : Int) + 1) < (n : Int)
        · rw [if_pos h5] at HL
          have KT := hid (fun w => rtext_no b (p + 1) n w (by omega) (by omega) (by omega) (by omega))
          rw [show ((p + 1 : Nat) : Int) = (p : Int) + 1 from by omega] at KT
          go_enter Try.func68, Try.ntmps68
          go_wp2_with fail
          refine Calls.mono K0.out ?_
          rintro e w1 ⟨rfl, k1⟩
          rw [k1]
          clear k1 w1
          go_wp2_with fail
          refine Calls.mono (KT.out _) ?_
          rintro e w1 ⟨rfl, k1⟩
          rw [k1]
          clear k1 w1
          go_wp2
          go_ret3
          exact ⟨⟨_, _, _, rfl, .inl ⟨rfl, HL.out⟩⟩, Below.refl _ _⟩
        · rw [if_neg h5] at HL
          have KT := hid (fun w => rtext_yes b (p + 1) n w (by omega) (by omega))
          rw [show ((p + 1 : Nat) : Int) = (p : Int) + 1 from by omega] at KT
          go_enter Try.func68, Try.ntmps68
          go_wp2_with fail
          refine Calls.mono K0.out ?_
          rintro e w1 ⟨rfl, k1⟩
          rw [k1]
          clear k1 w1
          go_wp2_with fail
          refine Calls.mono (KT.out _) ?_
          rintro e w1 ⟨rfl, k1⟩
          rw [k1]
          clear k1 w1
          go_wp2
          go_ret3
          exact ⟨⟨_, _, _, rfl, .inr ⟨rfl, HL.out⟩⟩, Below.refl _ _⟩
      · rw [if_neg h4] at HL
        have t0 : ((b.extract p (p + 1)).toList == [0]) = false := by rw [hq0]; simp [h4]
        by_cases h6 : btn b p = 1
        · rw [if_neg (by omega)] at HL
          have t1 : ((b.extract p (p + 1)).toList == [1]) = true := by rw [hq1]; simp [h6]
          clear hq0 hq1 h4 h6
          have K1 := hid (cread_any b ((p : Int) + 1) w (by omega) (by omega))
          have hbd1 := ctAt_bd b ((p : Int) + 1)
          generalize ctAt b ((p : Int) + 1) = q1 at *
          obtain ⟨m, a1⟩ := q1
          simp only at hbd1 K1 HL
          by_cases h7 : a1 < 0
          · rw [if_pos (Or.inl h7)] at HL
            rw [crV_no h7] at K1
            go_enter Try.func68, Try.ntmps68
            go_wp2_with fail
            refine Calls.mono K0.out ?_
            rintro e w1 ⟨rfl, k1⟩
            rw [k1]
            clear k1 w1
            go_wp2_with fail
            refine Calls.mono K1.out ?_
            rintro e w1 ⟨rfl, k1⟩
            rw [k1]
            clear k1 w1
            go_wp2
            go_ret3
            exact ⟨⟨_, _, _, rfl, .inl ⟨rfl, HL.out⟩⟩, Below.refl _ _⟩
          · rw [crV_yes h7] at K1
            obtain ⟨p1, rfl⟩ := Int.eq_ofNat_of_zero_le (show 0 ≤ a1 by omega)
            simp only [Int.toNat_natCast] at HL
            have hz := zeroV48
            have hok := tok hT
            have KL := hid (fun w => lay_yes t w ht hT)
            by_cases h8 : (b.size : Int) - (p1 : Int) < (m : Int)
            · rw [if_pos (Or.inr h8)] at HL
              have KT := hid (fun w => rtext_no b p1 m w (by omega) (by omega) (by omega) (by omega))
              go_enter Try.func68, Try.ntmps68
              go_wp2_with fail
              refine Calls.mono K0.out ?_
              rintro e w1 ⟨rfl, k1⟩
              rw [k1]
              clear k1 w1
              go_wp2_with fail
              refine Calls.mono K1.out ?_
              rintro e w1 ⟨rfl, k1⟩
              rw [k1]
              clear k1 w1
              go_wp2_with fail
              refine Calls.mono (KT.out _) ?_
              rintro e w1 ⟨rfl, k1⟩
              rw [k1]
              clear k1 w1
              go_wp2_with fail
              refine Calls.mono (KL.out _) ?_
              rintro e w1 ⟨rfl, b1⟩
              have r1 : (w1.alloc (.cells zero48 135)).rowIs w1.heap.size 135 384 zeroRow := row48 w1
              go_wp2_with (refine wpList_store_rowIs rfl 135 (.tmp 17) (.tmp 73) rfl w1.heap.size rfl 135 384 zeroRow (tabRow t) r1 rfl Try.size48 (fun i _ => layRow_one _ _ _ i) ?_; intro w2 q2 b2 o2 s2)
              go_ret3
              exact ⟨⟨_, _, _, rfl, .inl ⟨rfl, HL.out⟩⟩, (b1.alloc b1.size _).trans (b2.mono b1.size)⟩
            · rw [if_neg (by omega)] at HL
              have KT := hid (fun w => rtext_yes b p1 m w (by omega) (by omega))
              have hsz : (b.extract p1 (p1 + m)).size ≤ 1000 := by rw [ByteArray.size_extract]; omega
              have KR := hid (fun x w h => read_any t (b.extract p1 (p1 + m)) n x w h hok hsz (by omega))
              generalize b.extract p1 (p1 + m) = s at *
              generalize rd t s n = R at *
              obtain ⟨rs, rb⟩ := R
              simp only at HL KR
              clear hok
              cases rb
              · simp only [Bool.false_eq_true, if_false] at HL
                go_enter Try.func68, Try.ntmps68
                go_wp2_with fail
                refine Calls.mono K0.out ?_
                rintro e w1 ⟨rfl, k1⟩
                rw [k1]
                clear k1 w1
                go_wp2_with fail
                refine Calls.mono K1.out ?_
                rintro e w1 ⟨rfl, k1⟩
                rw [k1]
                clear k1 w1
                go_wp2_with fail
                refine Calls.mono (KT.out _) ?_
                rintro e w1 ⟨rfl, k1⟩
                rw [k1]
                clear k1 w1
                go_wp2_with fail
                refine Calls.mono (KL.out _) ?_
                rintro e w1 ⟨rfl, b1⟩
                have r1 : (w1.alloc (.cells zero48 135)).rowIs w1.heap.size 135 384 zeroRow := row48 w1
                go_wp2_with (refine wpList_store_rowIs rfl 135 (.tmp 17) (.tmp 73) rfl w1.heap.size rfl 135 384 zeroRow (tabRow t) r1 rfl Try.size48 (fun i _ => layRow_one _ _ _ i) ?_; intro w2 q2 b2 o2 s2)
                have hcw := hid (KR.out w1.heap.size w2 q2)
                have hb2 : Below w.heap.size w w2 := (b1.alloc b1.size _).trans (b2.mono b1.size)
                clear r1 b1 b2 q2 o2 s2
                refine Calls.mono hcw.out ?_
                rintro e w3 ⟨rfl, b3⟩
                go_wp2
                go_ret3
                exact ⟨⟨_, _, _, rfl, .inl ⟨rfl, HL.out⟩⟩, hb2.trans (b3.mono hb2.size)⟩
              · simp only [if_true] at HL
                go_enter Try.func68, Try.ntmps68
                go_wp2_with fail
                refine Calls.mono K0.out ?_
                rintro e w1 ⟨rfl, k1⟩
                rw [k1]
                clear k1 w1
                go_wp2_with fail
                refine Calls.mono K1.out ?_
                rintro e w1 ⟨rfl, k1⟩
                rw [k1]
                clear k1 w1
                go_wp2_with fail
                refine Calls.mono (KT.out _) ?_
                rintro e w1 ⟨rfl, k1⟩
                rw [k1]
                clear k1 w1
                go_wp2_with fail
                refine Calls.mono (KL.out _) ?_
                rintro e w1 ⟨rfl, b1⟩
                have r1 : (w1.alloc (.cells zero48 135)).rowIs w1.heap.size 135 384 zeroRow := row48 w1
                go_wp2_with (refine wpList_store_rowIs rfl 135 (.tmp 17) (.tmp 73) rfl w1.heap.size rfl 135 384 zeroRow (tabRow t) r1 rfl Try.size48 (fun i _ => layRow_one _ _ _ i) ?_; intro w2 q2 b2 o2 s2)
                have hcw := hid (KR.out w1.heap.size w2 q2)
                have hb2 : Below w.heap.size w w2 := (b1.alloc b1.size _).trans (b2.mono b1.size)
                clear r1 b1 b2 q2 o2 s2
                refine Calls.mono hcw.out ?_
                rintro e w3 ⟨rfl, b3⟩
                go_wp2
                go_ret3
                exact ⟨⟨_, _, _, rfl, .inr ⟨rfl, HL.out⟩⟩, hb2.trans (b3.mono hb2.size)⟩
        · rw [if_pos h6] at HL
          have t1 : ((b.extract p (p + 1)).toList == [1]) = false := by rw [hq1]; simp [h6]
          clear hq0 hq1 h4 h6
          go_enter Try.func68, Try.ntmps68
          go_wp2_with fail
          refine Calls.mono K0.out ?_
          rintro e w1 ⟨rfl, k1⟩
          rw [k1]
          clear k1 w1
          go_wp2
          go_ret3
          exact ⟨⟨_, _, _, rfl, .inl ⟨rfl, HL.out⟩⟩, Below.refl _ _⟩
end Go.Proofs.Ytnconbpneimjiaa

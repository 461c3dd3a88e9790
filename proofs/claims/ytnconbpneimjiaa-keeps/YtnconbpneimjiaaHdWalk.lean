/-
  P12: the walks of bodies.Read, frames.ReadHead, frames.ReadBody.
  P12: the walk of frames.ReadHead, of a head.
-/
import Derived.Test.YtnconbpneimjiaaPlyWalk
import Derived.Test.YtnconbpneimjiaaRdWalk
import Derived.Test.YtnconbpneimjiaaEncWalk
namespace Go.Proofs.Ytnconbpneimjiaa
open Go.RowKit Go.PlainAid

/-! ### P12: the walks of bodies.Read, frames.ReadHead, frames.ReadBody. -/
theorem rlAns_bd {t b lo : ByteArray} {a : Int} (hb : b.size ≤ 1000) (h : rlAns t b = some (lo, a)) : a ≤ 1000 ∧ lo.size ≤ 20000 := by
  have h0 := ctAt_bd b 0
  unfold rlAns at h
  generalize ctAt b 0 = q at *
  obtain ⟨n, p⟩ := q
  simp only at h0 h
  split at h
  · simp at h
  · split at h
    · split at h
      · simp at h
      · simp only [Option.some.injEq, Prod.mk.injEq] at h
        obtain ⟨rfl, rfl⟩ := h
        exact ⟨by omega, by rw [ByteArray.size_extract]; omega⟩
    · split at h
      · simp at h
      · have h1 := ctAt_bd b (p + 1)
        generalize ctAt b (p + 1) = q1 at *
        obtain ⟨m, p1⟩ := q1
        simp only at h1 h
        split at h
        · simp at h
        · generalize b.extract p1.toNat (p1.toNat + m) = s at *
          split at h
          · rename_i hrd
            simp only [Option.some.injEq, Prod.mk.injEq] at h
            obtain ⟨h3, rfl⟩ := h
            refine ⟨by omega, ?_⟩
            cases hr : rdOk t s n
            · rw [rd_no hr] at hrd; simp at hrd
            · rw [rd_yes hr] at h3
              rw [← h3]
              show (strN (outT t s n)).size ≤ 20000
              rw [strN_size, outT_len]; omega
          · simp at h

set_option maxRecDepth 100000 in
set_option maxHeartbeats 1600000 in
theorem bread_any (t c b : ByteArray) (size : Nat) (w : World) (ht : t.size ≤ maxLen) (hT : isTB t = true) (hc : c.size ≤ 500) (hb : b.size ≤ 1000) (hs : size ≤ 500) :
    Calls Try.prog 63 #[.string t, .string c, .string b, .int .i64 (size : Int)] w fun e w' => e = .returned (optV (rbAns t c b size)) ∧ Below w.heap.size w w' := by
  have HR := hid (rbAns_st t c b size)
  have HL := hid (rloose_any t b w ht hT hb)
  have HBD := hid (fun lo a (h : rlAns t b = some (lo, a)) => rlAns_bd hb h)
  generalize rbAns t c b size = O at *
  generalize rlAns t b = RL at *
  have HST := hid (fun a w (ha : a ≤ 1000) => rsteps_any b a w hb ha)
  have HSB := hid (fun a l (h : stAns b a = some l) => stAns_bd h)
  generalize stAns b = SA at *
  have HPL := hid (fun lo l v base w h1 h2 h3 h4 => play_any c lo l v size base w hc h1 hs h2 h3 h4)
  go_enter Try.func63, Try.ntmps63
  go_wp2_with fail
  refine Calls.mono HL.out ?_
  rintro e w1 ⟨⟨lo, a, bb, rfl, hcs⟩, b1⟩
  rcases hcs with ⟨rfl, hn⟩ | ⟨rfl, hn⟩
  · have HN := hid (HR.out.trans (by rw [hn] : _ = none))
    clear hn HR
    go_wp2
    go_ret2
    exact ⟨ret_v (optV_none HN.out), b1⟩
  · have HN := hid (HR.out.trans (by rw [hn]; rfl : _ = match SA a with
      | none => none
      | some l => pyEnd c.size size (pyS (c.size + size) l c lo)))
    obtain ⟨ha, hlo⟩ := HBD.out lo a hn
    have hst := hid (HST.out a w1 ha)
    clear hn HR HBD
    go_wp2_with fail
    refine Calls.mono hst.out ?_
    rintro e w2 ⟨⟨v, bb, rfl, hcs⟩, b2⟩
    rcases hcs with ⟨rfl, hn⟩ | ⟨rfl, l, hn, hown⟩
    · have HN2 := hid (HN.out.trans (by rw [hn] : _ = none))
      clear hn HN
      go_wp2
      go_ret2
      exact ⟨ret_v (optV_none HN2.out), b1.trans (b2.mono b1.size)⟩
    · have HN2 := hid (HN.out.trans (by rw [hn] : _ = pyEnd c.size size (pyS (c.size + size) l c lo)))
      obtain ⟨g1, g2⟩ := HSB.out a l hn
      have hpl := hid (HPL.out lo l v w1.heap.size w2 hlo g1 g2 hown)
      rw [← HN2.out] at hpl
      clear hn HN HN2 g2 hown
      go_wp2_with fail
      refine Calls.mono hpl.out ?_
      rintro e w3 ⟨rfl, b3⟩
      have B2 := b1.trans (b2.mono b1.size)
      cases O with
      | none =>
        simp only [optV]
        go_wp2
        go_ret2
        exact ⟨rfl, B2.trans (b3.mono B2.size)⟩
      | some r =>
        simp only [optV]
        go_wp2
        go_ret2
        exact ⟨rfl, B2.trans (b3.mono B2.size)⟩

/-- A head's cells, as a row. -/
def hRow (p : Bool) (i s z m : Int) (j : Nat) : Value := if j = 0 then .bool p else .int .i64 (if j = 1 then i else if j = 2 then s else if j = 3 then z else m)
theorem hRow_one (p : Bool) (i s z m : Int) (j : Nat) : (hRow p i s z m j).oneCell' = true := by
  unfold hRow
  split <;> rfl
theorem hRow_lay (w : World) (p : Bool) (i s z m : Int) : (w.alloc (.cells #[.bool p, .int .i64 i, .int .i64 s, .int .i64 z, .int .i64 m] 82)).rowIs w.heap.size 82 5 (hRow p i s z m) :=
  World.rowIs_alloc w #[.bool p, .int .i64 i, .int .i64 s, .int .i64 z, .int .i64 m] 82 (hRow p i s z m) (fun i hi => by
    have hi' : i < 5 := hi
    match i, hi' with
    | 0, _ => rfl
    | 1, _ => rfl
    | 2, _ => rfl
    | 3, _ => rfl
    | 4, _ => rfl)
theorem sizeHead : (Try.prog.info? 82).map (·.size) = some 5 := by kernel_rfl
def headV (p : Bool) (i s z m : Int) : Value := .agg #[.bool p, .int .i64 i, .int .i64 s, .int .i64 z, .int .i64 m]
theorem mark_beq (g : ByteArray) (h : 0 < g.size) : ((g.extract 0 1).toList == [70]) = decide (btn g 0 = 70) := one_beq g 0 h 70

set_option maxRecDepth 100000 in
set_option maxHeartbeats 1600000 in
theorem rhead_no (g : ByteArray) (w : World) (hg : g.size ≤ 1000) (h : hdB g = false) :
    Calls Try.prog 39 #[.string g] w fun e w' => e = .returned (.tuple #[headV false 0 0 0 0, .bool false]) ∧ Below w.heap.size w w' := by
  have h' : ¬ (14 ≤ g.size ∧ btn g 0 = 70 ∧ btn g 1 ≤ 1 ∧ num g 8 2 ≤ 500) := of_decide_eq_false h
  have hq := hRow_lay w false 0 0 0 0
  have hbq : Below w.heap.size w (w.alloc (.cells #[.bool false, .int .i64 0, .int .i64 0, .int .i64 0, .int .i64 0] 82)) := (Below.refl _ _).alloc (Nat.le_refl _) _
  clear h
  by_cases c0 : g.size < 14
  · have c0' : decide ((g.size : Int) < 14) = true := by simp; omega
    clear h'
    go_enter Try.func39, Try.ntmps39
    go_wp2_with (refine wpList_store_rowIs rfl 82 (.tmp 2) (.tmp 18) rfl w.heap.size rfl 82 5 (hRow false 0 0 0 0) (hRow false 0 0 0 0) hq rfl sizeHead (fun i _ => hRow_one _ _ _ _ _ i) ?_; intro w5 q5 b5 o5 s5)
    have hr := run_loadVar_rowIs (P := Try.prog) w5 w.heap.size 82 82 5 (hRow false 0 0 0 0) _ q5 Try.underlying82 rfl sizeHead
    refine bodyPost_ret (v := .tuple #[.agg (arrOf 5 (hRow false 0 0 0 0)), .bool false]) ?_ rfl ⟨rfl, ?_⟩
    · simp [results, Try.results39, asAddr, hr]
    · exact hbq.trans b5
  · have c0' : decide ((g.size : Int) < 14) = false := by simp; omega
    have hmk := mark_beq g (by omega)
    have hb := get_btn g
    have hb1 := btn_lt g 1
    have hg1 : 1 < g.size := by omega
    by_cases c1 : btn g 0 = 70
    · have t0 : ((g.extract 0 1).toList == [70]) = true := by rw [hmk]; simp [c1]
      by_cases c2 : 1 < btn g 1
      · have c2' : decide ((1 : Int) < (btn g 1 : Int)) = true := by simp; omega
        clear h' hmk c1
        go_enter Try.func39, Try.ntmps39
        go_wp2_with (refine wpList_store_rowIs rfl 82 (.tmp 2) (.tmp 18) rfl w.heap.size rfl 82 5 (hRow false 0 0 0 0) (hRow false 0 0 0 0) hq rfl sizeHead (fun i _ => hRow_one _ _ _ _ _ i) ?_; intro w5 q5 b5 o5 s5)
        have hr := run_loadVar_rowIs (P := Try.prog) w5 w.heap.size 82 82 5 (hRow false 0 0 0 0) _ q5 Try.underlying82 rfl sizeHead
        refine bodyPost_ret (v := .tuple #[.agg (arrOf 5 (hRow false 0 0 0 0)), .bool false]) ?_ rfl ⟨rfl, ?_⟩
        · simp [results, Try.results39, asAddr, hr]
        · exact hbq.trans b5
      · have c2' : decide ((1 : Int) < (btn g 1 : Int)) = false := by simp; omega
        have hz : 500 < num g 8 2 := by omega
        have hzl := num_lt g 8 2
        have R1 := hid (fun w => rnumE g 8 10 w (by omega) (by omega) (by omega))
        rw [show 10 - 8 = 2 from rfl] at R1
        clear h' hmk c1
        generalize num g 8 2 = Z at *
        have hz' : (500 : Int) < (Z : Int) := by omega
        go_enter Try.func39, Try.ntmps39
        go_wp2_with fail
        refine Calls.mono (R1.out _) ?_
        rintro e w1 ⟨rfl, k1⟩
        rw [k1]
        clear k1 w1
        go_wp2_with (refine wpList_store_rowIs rfl 82 (.tmp 2) (.tmp 24) rfl w.heap.size rfl 82 5 (hRow false 0 0 0 0) (hRow false 0 0 0 0) hq rfl sizeHead (fun i _ => hRow_one _ _ _ _ _ i) ?_; intro w5 q5 b5 o5 s5)
        have hr := run_loadVar_rowIs (P := Try.prog) w5 w.heap.size 82 82 5 (hRow false 0 0 0 0) _ q5 Try.underlying82 rfl sizeHead
        refine bodyPost_ret (v := .tuple #[.agg (arrOf 5 (hRow false 0 0 0 0)), .bool false]) ?_ rfl ⟨rfl, ?_⟩
        · simp [results, Try.results39, asAddr, hr]
        · exact hbq.trans b5
    · have t0 : ((g.extract 0 1).toList == [70]) = false := by rw [hmk]; simp [c1]
      clear h' hmk c1
      go_enter Try.func39, Try.ntmps39
      go_wp2_with (refine wpList_store_rowIs rfl 82 (.tmp 2) (.tmp 18) rfl w.heap.size rfl 82 5 (hRow false 0 0 0 0) (hRow false 0 0 0 0) hq rfl sizeHead (fun i _ => hRow_one _ _ _ _ _ i) ?_; intro w5 q5 b5 o5 s5)
      have hr := run_loadVar_rowIs (P := Try.prog) w5 w.heap.size 82 82 5 (hRow false 0 0 0 0) _ q5 Try.underlying82 rfl sizeHead
      refine bodyPost_ret (v := .tuple #[.agg (arrOf 5 (hRow false 0 0 0 0)), .bool false]) ?_ rfl ⟨rfl, ?_⟩
      · simp [results, Try.results39, asAddr, hr]
      · exact hbq.trans b5

/-! ### P12: the walk of frames.ReadHead, of a head. -/
/-- The number in a few bytes. -/
def rdN (s : ByteArray) : Int := (num s 0 s.size : Nat)
theorem rnumQ (s : ByteArray) (w : World) (hs : s.size ≤ 4) : Calls Try.prog 31 #[.string s] w fun e w' => e = .returned (.int .i64 (rdN s)) ∧ w' = w := rnum_any s w hs
theorem rdN_ext (g : ByteArray) (a b : Nat) (h : a ≤ b) (hb : b ≤ g.size) : rdN (g.extract a b) = (num g a (b - a) : Nat) := by
  unfold rdN
  rw [ext_size _ _ _ hb, num_ext g a b h hb]

set_option maxRecDepth 100000 in
set_option maxHeartbeats 3200000 in
theorem rhead_yes (g : ByteArray) (w : World) (hg : g.size ≤ 1000) (h : hdB g = true) :
    Calls Try.prog 39 #[.string g] w fun e w' => e = .returned (.tuple #[headV (decide (btn g 1 = 1)) (num g 2 2 : Nat) (num g 4 4 : Nat) (num g 8 2 : Nat) (num g 10 4 : Nat), .bool true]) ∧ Below w.heap.size w w' := by
  obtain ⟨h1, h2, h3, h4⟩ : 14 ≤ g.size ∧ btn g 0 = 70 ∧ btn g 1 ≤ 1 ∧ num g 8 2 ≤ 500 := of_decide_eq_true h
  clear h
  have c0' : decide ((g.size : Int) < 14) = false := by simp; omega
  have hmk := mark_beq g (by omega)
  have t0 : ((g.extract 0 1).toList == [70]) = true := by rw [hmk]; simp [h2]
  have hb := get_btn g
  have hb1 := btn_lt g 1
  have hg1 : 1 < g.size := by omega
  have c2' : decide ((1 : Int) < (btn g 1 : Int)) = false := by simp; omega
  have R1 := hid (fun w => rnumE g 8 10 w (by omega) (by omega) (by omega))
  rw [show 10 - 8 = 2 from rfl] at R1
  have E2 := hid (show rdN (g.extract 2 4) = (num g 2 2 : Nat) from rdN_ext g 2 4 (by omega) (by omega))
  have E3 := hid (show rdN (g.extract 4 8) = (num g 4 4 : Nat) from rdN_ext g 4 8 (by omega) (by omega))
  have E4 := hid (show rdN (g.extract 10 14) = (num g 10 4 : Nat) from rdN_ext g 10 14 (by omega) (by omega))
  have hp : ((btn g 1 : Int) == 1) = decide (btn g 1 = 1) := by rw [Bool.eq_iff_iff]; simp; omega
  have l1 := num_lt g 8 2
  have l2 := num_lt g 2 2
  have l3 := num_lt g 4 4
  have l4 := num_lt g 10 4
  generalize decide (btn g 1 = 1) = P at *
  clear hmk h2
  generalize num g 8 2 = N8 at *
  generalize num g 2 2 = N2 at *
  generalize num g 4 4 = N4 at *
  generalize num g 10 4 = N10 at *
  have c4 : ¬ (500 : Int) < (N8 : Int) := by omega
  have i4 : (4 : Int) ≤ (g.size : Int) := by omega
  have i8 : (8 : Int) ≤ (g.size : Int) := by omega
  have i14 : (14 : Int) ≤ (g.size : Int) := by omega
  go_enter Try.func39, Try.ntmps39
  go_wp2_with fail
  refine Calls.mono (R1.out _) ?_
  rintro e w1 ⟨rfl, k1⟩
  rw [k1]
  clear k1 w1
  go_wp2_with fail
  go_region_held3 (fun _ => True) (trivial) (first | (go_at_call 31; refine (rnumQ _ _ ?_).mono ?_; (rw [ByteArray.size_extract]; omega); rintro e w1 ⟨rfl, k1⟩; rw [k1]; clear k1 w1))
  all_goals rw [E2.out, E3.out, E4.out]
  all_goals go_wp2
  all_goals have q5 : ((w.alloc (.cells #[.bool P, .int .i64 (N2 : Int), .int .i64 (N4 : Int), .int .i64 (N8 : Int), .int .i64 (N10 : Int)] 82)).drew).rowIs w.heap.size 82 5 (hRow P (N2 : Int) (N4 : Int) (N8 : Int) (N10 : Int)) := hRow_lay w P (N2 : Int) (N4 : Int) (N8 : Int) (N10 : Int)
  all_goals have hr := run_loadVar_rowIs (P := Try.prog) _ w.heap.size 82 82 5 _ _ q5 Try.underlying82 rfl sizeHead
  all_goals refine bodyPost_ret (v := .tuple #[.agg (arrOf 5 (hRow P (N2 : Int) (N4 : Int) (N8 : Int) (N10 : Int))), .bool true]) ?_ rfl ⟨rfl, ?_⟩
  all_goals first
    | exact Below.drew ((Below.refl _ _).alloc (Nat.le_refl _) _)
    | (simp only [results, Try.results39, asAddr]; simp [hr])
end Go.Proofs.Ytnconbpneimjiaa

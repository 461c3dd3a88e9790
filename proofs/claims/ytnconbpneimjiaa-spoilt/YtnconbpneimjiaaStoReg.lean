/-
  P13 to P15: the program's store: PS (the store in memory holds a log, by the blocks that it owns), and what each call does.
-/
import Derived.Test.YtnconbpneimjiaaStoBind
import Derived.Test.YtnconbpneimjiaaEncProg
namespace Go.Proofs.Ytnconbpneimjiaa
open Go.RowKit Go.PlainAid

/-- The program's store p holds a log; F: the blocks that it owns. -/
def PS (w : World) (p : Nat) (F : Nat → Prop) (room : Int) (l : List Ev) : Prop :=
  ∃ B vb vs fl m sp n, PMm w p B room vb vs fl m sp n ∧ B ≤ w.heap.size ∧ 1 ≤ room ∧ room ≤ 8 ∧ BdL l room fl m ∧ ShL l sp n ∧ ∀ k, F k ↔ (k = p ∨ vb.ownBlock = some k ∨ vs.ownBlock = some k)
theorem PS.lt {w : World} {p : Nat} {F : Nat → Prop} {room : Int} {l : List Ev} (h : PS w p F room l) (k : Nat) (hk : F k) : k < w.heap.size := by
  obtain ⟨B, vb, vs, fl, m, sp, n, h1, _, _, _, _, _, h4⟩ := h
  rcases (h4 k).1 hk with rfl | q | q
  · exact h1.lt
  · exact (h1.bd.lt k q).2
  · exact (h1.sh.lt k q).2
theorem PS.kept {w w' : World} {p : Nat} {F : Nat → Prop} {room : Int} {l : List Ev} (h : PS w p F room l) (hs : w.heap.size ≤ w'.heap.size) (hk : ∀ k, F k → w'.heap[k]? = w.heap[k]?) : PS w' p F room l := by
  obtain ⟨B, vb, vs, fl, m, sp, n, h1, h2, r1, r2, h3, h5, h4⟩ := h
  exact ⟨B, vb, vs, fl, m, sp, n, h1.kept (fun k q => hk k ((h4 k).2 q)), by omega, r1, r2, h3, h5, h4⟩
section
variable {w w' : World} {p B : Nat} {room : Int} {vb vs vb' vs' : Value} {fl fl' : Nat → ByteArray} {m m' : Nat} {sp sp' : Nat → Spt} {n n' : Nat} {F : Nat → Prop} {l : List Ev}
theorem ps_toB (h4 : ∀ k, F k ↔ (k = p ∨ vb.ownBlock = some k ∨ vs.ownBlock = some k)) (hB : B ≤ w.heap.size) (r1 : 1 ≤ room) (r2 : room ≤ 8) (hM : PMm w' p B room vb' vs fl' m' sp n) (hc : ChgF (fun q => q = p ∨ vb.ownBlock = some q) w w') (hl : LiesF w vb vb') (h3 : BdL l room fl' m') (h5 : ShL l sp n) : ∃ F', PS w' p F' room l ∧ ChgF F w w' ∧ GrowF w F F' := by
  refine ⟨fun k => k = p ∨ vb'.ownBlock = some k ∨ vs.ownBlock = some k, ⟨B, vb', vs, fl', m', sp, n, hM, Nat.le_trans hB hc.size, r1, r2, h3, h5, fun k => Iff.rfl⟩, hc.mono (fun k q => (h4 k).2 (q.elim .inl (fun q => .inr (.inl q)))), fun k hk => ?_⟩
  rcases hk with q | q | q
  · exact .inl ((h4 k).2 (.inl q))
  · rcases hl k q with e | e
    · exact .inl ((h4 k).2 (.inr (.inl e)))
    · exact .inr e
  · exact .inl ((h4 k).2 (.inr (.inr q)))
theorem ps_toS (h4 : ∀ k, F k ↔ (k = p ∨ vb.ownBlock = some k ∨ vs.ownBlock = some k)) (hB : B ≤ w.heap.size) (r1 : 1 ≤ room) (r2 : room ≤ 8) (hM : PMm w' p B room vb vs' fl m sp' n') (hc : ChgF (fun q => q = p ∨ vs.ownBlock = some q) w w') (hl : LiesF w vs vs') (h3 : BdL l room fl m) (h5 : ShL l sp' n') : ∃ F', PS w' p F' room l ∧ ChgF F w w' ∧ GrowF w F F' := by
  refine ⟨fun k => k = p ∨ vb.ownBlock = some k ∨ vs'.ownBlock = some k, ⟨B, vb, vs', fl, m, sp', n', hM, Nat.le_trans hB hc.size, r1, r2, h3, h5, fun k => Iff.rfl⟩, hc.mono (fun k q => (h4 k).2 (q.elim .inl (fun q => .inr (.inr q)))), fun k hk => ?_⟩
  rcases hk with q | q | q
  · exact .inl ((h4 k).2 (.inl q))
  · exact .inl ((h4 k).2 (.inr (.inl q)))
  · rcases hl k q with e | e
    · exact .inl ((h4 k).2 (.inr (.inr e)))
    · exact .inr e
end
set_option maxRecDepth 100000 in
theorem pg_new_no (room : Int) (w : World) (h : room < 1 ∨ 8 < room) :
    Calls Try.prog 9 #[.int .i64 room] w fun e w' => e = .returned (.tuple #[.pointer none, .int .i64 2]) ∧ Below w.heap.size w w' := by
  by_cases h1 : room < 1
  · have d1 : decide (room < 1) = true := by simp [h1]
    clear h
    go_enter Try.func9, Try.ntmps9
    go_wp2
    go_ret2
    exact ⟨rfl, Below.refl _ _⟩
  · have d1 : decide (room < 1) = false := by simp; omega
    have d2 : decide (8 < room) = true := by simp; omega
    clear h
    go_enter Try.func9, Try.ntmps9
    go_wp2
    go_ret2
    exact ⟨rfl, Below.refl _ _⟩
def mRow (room : Int) (j : Nat) : Value := if j = 0 then .int .i64 room else .slice none 0 0
theorem sizeBnd : (Try.prog.info? 53).map (·.size) = some 2 := by kernel_rfl
set_option maxRecDepth 100000 in
theorem bmake_any (room : Int) (w : World) :
    Calls Try.prog 18 #[.int .i64 room] w fun e w' => e = .returned (.agg #[.int .i64 room, .slice none 0 0]) ∧ Below w.heap.size w w' := by
  go_enter Try.func18, Try.ntmps18
  go_wp2
  have q5 : (w.alloc (.cells #[.int .i64 room, .slice none 0 0] 53)).rowIs w.heap.size 53 2 (mRow room) := World.rowIs_alloc w #[.int .i64 room, .slice none 0 0] 53 (mRow room) (fun i hi => by
      have hi' : i < 2 := hi
      match i, hi' with
      | 0, _ => rfl
      | 1, _ => rfl)
  have hr := run_loadVar_rowIs (P := Try.prog) _ w.heap.size 53 53 2 (mRow room) _ q5 Try.underlying53 rfl sizeBnd
  refine bodyPost_ret (v := .agg (arrOf 2 (mRow room))) ?_ rfl ⟨rfl, (Below.refl _ _).alloc (Nat.le_refl _) _⟩
  simp [results, Try.results18, asAddr, hr]
set_option maxRecDepth 100000 in
theorem pg_new (room : Int) (w : World) (h : ¬ (room < 1 ∨ 8 < room)) :
    Calls Try.prog 9 #[.int .i64 room] w fun e w' => ∃ p F, e = .returned (.tuple #[.pointer (some ⟨p, 0, none⟩), .int .i64 0]) ∧ PS w' p F room [] ∧ (∀ k, F k → w.heap.size ≤ k) ∧ Below w.heap.size w w' := by
  have d1 : decide (room < 1) = false := by simp; omega
  have d2 : decide (8 < room) = false := by simp; omega
  have H := hid (bmake_any room w)
  go_enter Try.func9, Try.ntmps9
  go_wp2_with fail
  refine Calls.mono H.out ?_
  rintro e w1 ⟨rfl, b1⟩
  go_wp2
  go_ret2
  have hs := b1.size
  have hb : Below w1.heap.size w1 (w1.alloc (.cells #[.int .i64 room, .slice none 0 0, .slice none 0 0] 59)) := (Below.refl _ _).alloc (Nat.le_refl _) _
  refine ⟨w1.heap.size, fun k => k = w1.heap.size, rfl, ⟨w1.heap.size + 1, .slice none 0 0, .slice none 0 0, fun _ => ⟨#[]⟩, 0, fun _ => ⟨⟨#[]⟩, ⟨#[]⟩, 0, 0⟩, 0, ⟨?_, by omega, World.ownsRow_nil _ _ _ _, World.ownsRow_nil _ _ _ _⟩, by simp, by omega, by omega, BdL.nil room _ (by omega), ShL.nil _, fun k => ⟨fun q => .inl q, fun q => q.elim id (fun q => q.elim (fun q => by simp [Value.ownBlock] at q) (fun q => by simp [Value.ownBlock] at q))⟩⟩, fun k hk => by omega, b1.trans (hb.mono b1.size)⟩
  exact World.rowIs_alloc w1 #[.int .i64 room, .slice none 0 0, .slice none 0 0] 59 (pRow room (.slice none 0 0) (.slice none 0 0)) (fun i hi => by
      have hi' : i < 3 := hi
      match i, hi' with
      | 0, _ => rfl
      | 1, _ => rfl
      | 2, _ => rfl)
set_option maxRecDepth 100000 in
theorem pg_remove (p : Nat) (F : Nat → Prop) (room : Int) (l : List Ev) (id : Int) (w : World) (h : PS w p F room l) (_hl : l.length < 1800000000000) (hL : LogOk l) :
    Calls Try.prog 22 #[.pointer (some ⟨p, 0, none⟩), .int .i64 id] w fun e w' => e = .returned (.int .i64 (rmAns l id).1) ∧ ∃ F', PS w' p F' room (rmAns l id).2 ∧ ChgF F w w' ∧ GrowF w F F' := by
  obtain ⟨B, vb, vs, fl, m, sp, n, h1, hB, r1, r2, h3, h5, h4⟩ := h
  have hrm := h3.rm
  have H := hid (unbind_any p B room vb vs fl m sp n l id w h1 (by omega) h3 hL hB)
  have hp := h1.lt
  have HA := hid (show rmAns l id = if fileOf l id = ⟨#[]⟩ then (8, l) else (0, l ++ [⟨2, id, ⟨#[]⟩, ⟨#[]⟩⟩]) from rfl)
  generalize rmAns l id = A at *
  go_enter Try.func22, Try.ntmps22
  go_wp2_with fail
  refine Calls.mono H.out ?_
  rintro e w1 ⟨vb', fl', m', q1, q2, q3, q4⟩
  rcases q4 with ⟨c, rfl, q5⟩ | ⟨c, rfl, q5⟩
  · have HA2 := hid (show A = (8, l) from by rw [HA.out, if_pos c])
    clear HA
    go_wp2
    go_ret
    rw [HA2.out]
    exact ⟨rfl, ps_toB h4 hB r1 r2 q1 q2 q3 q5 h5⟩
  · have HA2 := hid (show A = (0, l ++ [⟨2, id, ⟨#[]⟩, ⟨#[]⟩⟩]) from by rw [HA.out, if_neg c])
    clear HA
    go_wp2
    go_ret
    rw [HA2.out]
    exact ⟨rfl, ps_toB h4 hB r1 r2 q1 q2 q3 q5 (h5.same _ (by show (2 : Nat) ≠ 3; decide))⟩
set_option maxRecDepth 100000 in
theorem isKey_any (k : ByteArray) (w : World) (hk : k.size ≤ maxLen) :
    Calls Try.prog 51 #[.string k] w fun e w' => e = .returned (.bool (decide (1 ≤ k.size ∧ k.size ≤ 8))) ∧ w' = w := by
  unfold maxLen at hk
  have hb : decide (1 ≤ k.size ∧ k.size ≤ 8) = (decide (1 ≤ k.size) && decide (k.size ≤ 8)) := by simp
  rw [hb]
  by_cases h1 : 1 ≤ k.size
  · have d1 : decide (1 ≤ (k.size : Int)) = true := by simp; omega
    have d1' : decide (1 ≤ k.size) = true := by simp [h1]
    have d2 : decide ((k.size : Int) ≤ 8) = decide (k.size ≤ 8) := by rw [Bool.eq_iff_iff]; simp; omega
    rw [d1']
    clear hb
    go_enter Try.func51, Try.ntmps51
    go_wp2
    go_ret
    exact ⟨by simp, rfl⟩
  · have d1 : decide (1 ≤ (k.size : Int)) = false := by simp; omega
    have d1' : decide (1 ≤ k.size) = false := decide_eq_false h1
    rw [d1']
    clear hb
    go_enter Try.func51, Try.ntmps51
    go_wp2
    go_ret
    exact ⟨by simp, rfl⟩
/-- What Bind has done, seen from an elder world. -/
def BPost (w : World) (p B : Nat) (room : Int) (vb vs : Value) (sp : Nat → Spt) (n : Nat) (l : List Ev) (w' : World) : Prop :=
  ∃ vb' fl' m', PMm w' p B room vb' vs fl' m' sp n ∧ ChgF (fun q => q = p ∨ vb.ownBlock = some q) w w' ∧ LiesF w vb vb' ∧ BdL l room fl' m'
section
variable (p B : Nat) (room : Int) (vb vs : Value) (fl : Nat → ByteArray) (m : Nat) (sp : Nat → Spt) (n : Nat) (l : List Ev) (f : ByteArray) (w w5 : World)
theorem bind_full (hc : ChgF (fun q => q = p ∨ vb.ownBlock = some q) w w5) (h : PMm w5 p B room vb vs fl m sp n) (hm : m ≤ 8) (hL : BdL l room fl m) (hO : LogOk l) (hf : pOk f) (hB : B ≤ w.heap.size) (hF : FullB l room f) :
    Calls Try.prog 19 #[.pointer (some ⟨p, 0, none⟩), flAgg f] w5 fun e w' => e = .returned (.bool false) ∧ BPost w p B room vb vs sp n l w' ∧ ChgF (fun q => q = p ∨ vb.ownBlock = some q) w5 w' := by
  refine Calls.mono (bind_any p B room vb vs fl m sp n l f w5 h hm hL hO hf (Nat.le_trans hB hc.size)) ?_
  rintro e w' ⟨vb', fl', m', q1, q2, q3, q4⟩
  rcases q4 with ⟨_, rfl, q5⟩ | ⟨c, _⟩
  · exact ⟨rfl, ⟨vb', fl', m', q1, hc.trans q2 (fun _ _ q => q), fun g hg => (q3 g hg).elim .inl (fun q => .inr (Nat.le_trans hc.size q)), q5⟩, q2⟩
  · exact absurd hF c
theorem bind_room (hc : ChgF (fun q => q = p ∨ vb.ownBlock = some q) w w5) (h : PMm w5 p B room vb vs fl m sp n) (hm : m ≤ 8) (hL : BdL l room fl m) (hO : LogOk l) (hf : pOk f) (hB : B ≤ w.heap.size) (hF : ¬ FullB l room f) :
    Calls Try.prog 19 #[.pointer (some ⟨p, 0, none⟩), flAgg f] w5 fun e w' => e = .returned (.bool true) ∧ BPost w p B room vb vs sp n (l ++ [⟨1, (num f 3 2 : Int), ⟨#[]⟩, f⟩]) w' ∧ ChgF (fun q => q = p ∨ vb.ownBlock = some q) w5 w' := by
  refine Calls.mono (bind_any p B room vb vs fl m sp n l f w5 h hm hL hO hf (Nat.le_trans hB hc.size)) ?_
  rintro e w' ⟨vb', fl', m', q1, q2, q3, q4⟩
  rcases q4 with ⟨c, _⟩ | ⟨_, rfl, q5⟩
  · exact absurd c hF
  · exact ⟨rfl, ⟨vb', fl', m', q1, hc.trans q2 (fun _ _ q => q), fun g hg => (q3 g hg).elim .inl (fun q => .inr (Nat.le_trans hc.size q)), q5⟩, q2⟩
end
theorem chg_cell {F : Nat → Prop} {w w' : World} (h : ChgF F w w') (a : Addr) (hl : a.block < w.heap.size) (hn : ¬ F a.block) : w'.cell? a = w.cell? a := World.cell?_of_block (h.block a.block hl hn)
theorem rgAns_no {l : List Ev} {room : Int} {f : ByteArray} (h : ¬ pOk f) : rgAns l room f = (0, 6, l) := by
  have : pOkB f = false := by
    cases hq : pOkB f
    · rfl
    · exact absurd ((pOkB_iff f).1 hq) h
  unfold rgAns; rw [if_pos this]
theorem rgAns_full {l : List Ev} {room : Int} {f : ByteArray} (h : pOk f) (hF : FullB l room f) : rgAns l room f = (0, 11, l) := by
  unfold rgAns; rw [if_neg (by rw [(pOkB_iff f).2 h]; simp), if_pos (show fileOf l (num f 3 2 : Int) = ⟨#[]⟩ ∧ room ≤ (idsOf l : Int) from hF)]
theorem rgAns_room {l : List Ev} {room : Int} {f : ByteArray} (h : pOk f) (hF : ¬ FullB l room f) : rgAns l room f = ((num f 3 2 : Int), 0, l ++ [⟨1, (num f 3 2 : Int), ⟨#[]⟩, f⟩]) := by
  unfold rgAns; rw [if_neg (by rw [(pOkB_iff f).2 h]; simp), if_neg (show ¬ (fileOf l (num f 3 2 : Int) = ⟨#[]⟩ ∧ room ≤ (idsOf l : Int)) from hF)]
set_option maxRecDepth 100000 in
set_option maxHeartbeats 1600000 in
theorem pg_register (p : Nat) (F : Nat → Prop) (room : Int) (l : List Ev) (f : ByteArray) (w : World) (h : PS w p F room l) (_hl : l.length < 1800000000000) (hL : LogOk l) (hf : f.size ≤ maxLen) :
    Calls Try.prog 10 #[.pointer (some ⟨p, 0, none⟩), .string f] w fun e w' => e = .returned (.tuple #[.int .i64 (rgAns l room f).1, .int .i64 (rgAns l room f).2.1]) ∧ ∃ F', PS w' p F' room (rgAns l room f).2.2 ∧ ChgF F w w' ∧ GrowF w F F' := by
  have HPS := hid h
  obtain ⟨B, vb, vs, fl, m, sp, n, h1, hB, r1, r2, h3, h5, h4⟩ := h
  have hrm := h3.rm
  have hp := h1.lt
  have HR := hid (fileRead_any f w hf)
  by_cases h : pOk f
  · have HPA := hid (show pAns f = ((num f 3 2 : Int), (pAns f).2.1, (pAns f).2.2.1, 0) from by rw [pAns_yes h])
    have HAG := hid (show flAgg f = .agg #[.int .i64 (num f 3 2 : Int), .string (pAns f).2.1, .string (pAns f).2.2.1, .int .i64 (wSum (f.extract 0 (pE f)) : Nat)] from rfl)
    rw [fSum_yes h, HPA.out] at HR
    simp only [decide_true] at HR
    have hn := num_lt f 3 2
    have hws := wSum_lt (f.extract 0 (pE f))
    have hvl := hid (fun q (hq : vb.ownBlock = some q) => (h1.bd.lt q hq).2)
    by_cases hF : FullB l room f
    · have HA := hid (rgAns_full h hF)
      have HBD := hid (fun w5 hc h => bind_full p B room vb vs fl m sp n l f w w5 hc h (by omega) h3 hL ‹pOk f› hB hF)
      rw [HA.out]
      rw [HAG.out] at HBD
      clear HPA HAG HA h hF
      generalize (pAns f).2.1 = T at *
      generalize (pAns f).2.2.1 = C at *
      generalize num f 3 2 = N at *
      generalize wSum (f.extract 0 (pE f)) = S at *
      go_enter Try.func10, Try.ntmps10
      go_wp2_with fail
      refine Calls.mono HR.out ?_
      rintro e w1 ⟨rfl, b1⟩
      have hq := fRow_new w1
      have hs1 := b1.size
      have NX := hid (show ¬ (w1.heap.size = p ∨ vb.ownBlock = some w1.heap.size) from fun q => q.elim (fun q => by omega) (fun q => by have := hvl.out _ q; omega))
      go_wp2_with (first
        | (refine wpList_store_rowIs rfl 48 (.tmp 6) (.tmp 12) rfl w1.heap.size rfl 48 4 (fRow 0 ⟨#[]⟩ ⟨#[]⟩ 0) (fRow (N : Int) T C (S : Int)) hq rfl sizeFile (fun i _ => fRow_one _ _ _ _ i) ?_
           intro w5 q5 b5 o5 s5
           have y0 := (FlAt.of_row q5).c0
           have y1 := (FlAt.of_row q5).c1
           have y2 := (FlAt.of_row q5).c2
           have y3 := (FlAt.of_row q5).c3
           have yl := (FlAt.of_row q5).lt
           have hB5 := (b1.alloc b1.size (.cells #[.int .i64 0, .string ⟨#[]⟩, .string ⟨#[]⟩, .int .i64 0] 48)).trans (b5.mono b1.size)
           have hM5 := h1.below hB5))
      go_region_held3 (fun w' => w'.cell? ⟨w1.heap.size, 0, none⟩ = some (.int .i64 (N : Int)) ∧ w'.cell? ⟨w1.heap.size, 1, none⟩ = some (.string T) ∧ w'.cell? ⟨w1.heap.size, 2, none⟩ = some (.string C) ∧ w'.cell? ⟨w1.heap.size, 3, none⟩ = some (.int .i64 (S : Int)))
        (first | go_keep | (refine ⟨?_, ?_, ?_, ?_⟩ <;> assumption) | assumption)
        (first | (go_at_call 19; refine (HBD.out _ (by exact ⟨hB5.os, hB5.tape, hB5.output, hB5.size, fun k hk _ => hB5.block k hk⟩) (by exact ⟨hM5.row, hM5.lo, hM5.bd, hM5.sh⟩)).mono ?_; rintro e w6 ⟨rfl, HQ, hC⟩; have jj := hid (fun i => chg_cell hC ⟨w1.heap.size, i, none⟩ yl NX.out); have j0 := (jj.out 0).trans y0; have j1 := (jj.out 1).trans y1; have j2 := (jj.out 2).trans y2; have j3 := (jj.out 3).trans y3))
      go_wp2
      go_ret2
      obtain ⟨vb', fl', m', g1, g2, g3, g5⟩ := HQ
      exact ⟨rfl, ps_toB h4 hB r1 r2 g1 g2 g3 g5 h5⟩
    · have HA := hid (rgAns_room h hF)
      have HBD := hid (fun w5 hc h => bind_room p B room vb vs fl m sp n l f w w5 hc h (by omega) h3 hL ‹pOk f› hB hF)
      have HS := hid (h5.same ⟨1, (num f 3 2 : Int), ⟨#[]⟩, f⟩ (by show (1 : Nat) ≠ 3; decide))
      rw [HA.out]
      rw [HAG.out] at HBD
      clear HPA HAG HA h hF
      generalize (pAns f).2.1 = T at *
      generalize (pAns f).2.2.1 = C at *
      generalize num f 3 2 = N at *
      generalize wSum (f.extract 0 (pE f)) = S at *
      go_enter Try.func10, Try.ntmps10
      go_wp2_with fail
      refine Calls.mono HR.out ?_
      rintro e w1 ⟨rfl, b1⟩
      have hq := fRow_new w1
      have hs1 := b1.size
      have NX := hid (show ¬ (w1.heap.size = p ∨ vb.ownBlock = some w1.heap.size) from fun q => q.elim (fun q => by omega) (fun q => by have := hvl.out _ q; omega))
      go_wp2_with (first
        | (refine wpList_store_rowIs rfl 48 (.tmp 6) (.tmp 12) rfl w1.heap.size rfl 48 4 (fRow 0 ⟨#[]⟩ ⟨#[]⟩ 0) (fRow (N : Int) T C (S : Int)) hq rfl sizeFile (fun i _ => fRow_one _ _ _ _ i) ?_
           intro w5 q5 b5 o5 s5
           have y0 := (FlAt.of_row q5).c0
           have y1 := (FlAt.of_row q5).c1
           have y2 := (FlAt.of_row q5).c2
           have y3 := (FlAt.of_row q5).c3
           have yl := (FlAt.of_row q5).lt
           have hB5 := (b1.alloc b1.size (.cells #[.int .i64 0, .string ⟨#[]⟩, .string ⟨#[]⟩, .int .i64 0] 48)).trans (b5.mono b1.size)
           have hM5 := h1.below hB5))
      go_region_held3 (fun w' => w'.cell? ⟨w1.heap.size, 0, none⟩ = some (.int .i64 (N : Int)) ∧ w'.cell? ⟨w1.heap.size, 1, none⟩ = some (.string T) ∧ w'.cell? ⟨w1.heap.size, 2, none⟩ = some (.string C) ∧ w'.cell? ⟨w1.heap.size, 3, none⟩ = some (.int .i64 (S : Int)))
        (first | go_keep | (refine ⟨?_, ?_, ?_, ?_⟩ <;> assumption) | assumption)
        (first | (go_at_call 19; refine (HBD.out _ (by exact ⟨hB5.os, hB5.tape, hB5.output, hB5.size, fun k hk _ => hB5.block k hk⟩) (by exact ⟨hM5.row, hM5.lo, hM5.bd, hM5.sh⟩)).mono ?_; rintro e w6 ⟨rfl, HQ, hC⟩; have jj := hid (fun i => chg_cell hC ⟨w1.heap.size, i, none⟩ yl NX.out); have j0 := (jj.out 0).trans y0; have j1 := (jj.out 1).trans y1; have j2 := (jj.out 2).trans y2; have j3 := (jj.out 3).trans y3))
      go_wp2
      go_ret2
      obtain ⟨vb', fl', m', g1, g2, g3, g5⟩ := HQ
      exact ⟨rfl, ps_toB h4 hB r1 r2 g1 g2 g3 g5 HS.out⟩
  · have HA := hid (rgAns_no (l := l) (room := room) h)
    rw [HA.out]
    rw [fSum_no h, pAns_no h] at HR
    have hd : decide ((6 : Int) = 0) = false := rfl
    simp only [hd] at HR
    clear h HA hd
    go_enter Try.func10, Try.ntmps10
    go_wp2_with fail
    refine Calls.mono HR.out ?_
    rintro e w1 ⟨rfl, b1⟩
    have hq := fRow_new w1
    go_wp2_with (refine wpList_store_rowIs rfl 48 (.tmp 6) (.tmp 12) rfl w1.heap.size rfl 48 4 (fRow 0 ⟨#[]⟩ ⟨#[]⟩ 0) (fRow 0 ⟨#[]⟩ ⟨#[]⟩ 0) hq rfl sizeFile (fun i _ => fRow_one _ _ _ _ i) ?_; intro w5 q5 b5 o5 s5)
    go_ret2
    have hB5 := (b1.alloc b1.size (.cells #[.int .i64 0, .string ⟨#[]⟩, .string ⟨#[]⟩, .int .i64 0] 48)).trans (b5.mono b1.size)
    exact ⟨rfl, F, HPS.out.kept hB5.size (fun k hk => hB5.block k (HPS.out.lt k hk)), ChgF.ofBelow hB5, GrowF.refl _ _⟩
end Go.Proofs.Ytnconbpneimjiaa

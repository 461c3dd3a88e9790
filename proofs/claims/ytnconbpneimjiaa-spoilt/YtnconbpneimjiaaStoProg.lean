/-
  P13 to P15: the program's store: PS (the store in memory holds a log, by the blocks that it owns), and what each call does.
  P14, P15: the program's store: Put, Get.
-/
import Derived.Test.YtnconbpneimjiaaStoBind
import Derived.Test.YtnconbpneimjiaaStoMath
import Derived.Test.YtnconbpneimjiaaEncProg
/-! ###  P13 to P15: the program's store: PS (the store in memory holds a log, by the blocks that it owns), and what each call does. -/
namespace Go.Proofs.Ytnconbpneimjiaa
open Go.RowKit Go.PlainAid

/-- The program's store p holds a log; F: the blocks that it owns. -/
def PS (w : World) (p : Nat) (F : Nat → Prop) (room : Int) (l : List Ev) : Prop :=
  ∃ B vb vs fl m sp n, PMm w p B room vb vs fl m sp n ∧ B ≤ w.heap.size ∧ 1 ≤ room ∧ room ≤ 8 ∧ BdL l room fl m ∧ ShL l sp n ∧ ∀ k, F k ↔ (k = p ∨ vb.ownBlock = some k ∨ vs.ownBlock = some k)
theorem PS.lt {w : World} {p : Nat} {F : Nat → Prop} {room : Int} {l : List Ev} (h : PS w p F room l) (k : Nat) (hk : F k) : k < w.heap.size := by
  obtain ⟨B, vb, vs, fl, m, sp, n, h1, _, _, _, _, _, h4⟩ := h
  rcases (h4 k).1 hk with rfl | q | q
  · exact h1.lt
  · exact (h1.bd.lt k q).2
  · exact (h1.sh.lt k q).2
theorem PS.kept {w w' : World} {p : Nat} {F : Nat → Prop} {room : Int} {l : List Ev} (h : PS w p F room l) (hs : w.heap.size ≤ w'.heap.size) (hk : ∀ k, F k → w'.heap[k]? = w.heap[k]?) : PS w' p F room l := by
  obtain ⟨B, vb, vs, fl, m, sp, n, h1, h2, r1, r2, h3, h5, h4⟩ := h
  exact ⟨B, vb, vs, fl, m, sp, n, h1.kept (fun k q => hk k ((h4 k).2 q)), by omega, r1, r2, h3, h5, h4⟩
section
variable {w w' : World} {p B : Nat} {room : Int} {vb vs vb' vs' : Value} {fl fl' : Nat → ByteArray} {m m' : Nat} {sp sp' : Nat → Spt} {n n' : Nat} {F : Nat → Prop} {l : List Ev}
theorem ps_toB (h4 : ∀ k, F k ↔ (k = p ∨ vb.ownBlock = some k ∨ vs.ownBlock = some k)) (hB : B ≤ w.heap.size) (r1 : 1 ≤ room) (r2 : room ≤ 8) (hM : PMm w' p B room vb' vs fl' m' sp n) (hc : ChgF (fun q => q = p ∨ vb.ownBlock = some q) w w') (hl : LiesF w vb vb') (h3 : BdL l room fl' m') (h5 : ShL l sp n) : ∃ F', PS w' p F' room l ∧ ChgF F w w' ∧ GrowF w F F' := by
  refine ⟨fun k => k = p ∨ vb'.ownBlock = some k ∨ vs.ownBlock = some k, ⟨B, vb', vs, fl', m', sp, n, hM, Nat.le_trans hB hc.size, r1, r2, h3, h5, fun k => Iff.rfl⟩, hc.mono (fun k q => (h4 k).2 (q.elim .inl (fun q => .inr (.inl q)))), fun k hk => ?_⟩
  rcases hk with q | q | q
  · exact .inl ((h4 k).2 (.inl q))
  · rcases hl k q with e | e
    · exact .inl ((h4 k).2 (.inr (.inl e)))
    · exact .inr e
  · exact .inl ((h4 k).2 (.inr (.inr q)))
theorem ps_toS (h4 : ∀ k, F k ↔ (k = p ∨ vb.ownBlock = some k ∨ vs.ownBlock = some k)) (hB : B ≤ w.heap.size) (r1 : 1 ≤ room) (r2 : room ≤ 8) (hM : PMm w' p B room vb vs' fl m sp' n') (hc : ChgF (fun q => q = p ∨ vs.ownBlock = some q) w w') (hl : LiesF w vs vs') (h3 : BdL l room fl m) (h5 : ShL l sp' n') : ∃ F', PS w' p F' room l ∧ ChgF F w w' ∧ GrowF w F F' := by
  refine ⟨fun k => k = p ∨ vb.ownBlock = some k ∨ vs'.ownBlock = some k, ⟨B, vb, vs', fl, m, sp', n', hM, Nat.le_trans hB hc.size, r1, r2, h3, h5, fun k => Iff.rfl⟩, hc.mono (fun k q => (h4 k).2 (q.elim .inl (fun q => .inr (.inr q)))), fun k hk => ?_⟩
  rcases hk with q | q | q
  · exact .inl ((h4 k).2 (.inl q))
  · exact .inl ((h4 k).2 (.inr (.inl q)))
  · rcases hl k q with e | e
    · exact .inl ((h4 k).2 (.inr (.inr e)))
    · exact .inr e
end
theorem ShL.count {l : List Ev} {sp : Nat → Spt} {n : Nat} (h : ShL l sp n) (hK : KN l) : n < 1800000000000 := by
  have := hK ((List.range n).map (fun i => (sp i).ky)) ?_ ?_
  · rwa [List.length_map, List.length_range] at this
  · rw [List.nodup_iff_pairwise_ne, List.pairwise_map]
    refine List.Pairwise.imp_of_mem ?_ (List.nodup_iff_pairwise_ne.1 List.nodup_range)
    intro a b ha hb hne he
    rw [List.mem_range] at ha hb
    exact hne (h.ord.one a b ha hb he)
  · intro k hk
    rw [List.mem_map] at hk
    obtain ⟨i, hi, rfl⟩ := hk
    rw [List.mem_range] at hi
    rw [h.has i hi]
    simp
set_option maxRecDepth 100000 in
theorem pg_new_no (room : Int) (w : World) (h : room < 1 ∨ 8 < room) :
    Calls Try.prog 9 #[.int .i64 room] w fun e w' => e = .returned (.tuple #[.pointer none, .int .i64 2]) ∧ Below w.heap.size w w' := by
  by_cases h1 : room < 1
  · have d1 : decide (room < 1) = true := by simp [h1]
    clear h
    go_enter Try.func9, Try.ntmps9
    go_wp2
    go_ret2
    exact ⟨rfl, Below.refl _ _⟩
  · have d1 : decide (room < 1) = false := by simp; omega
    have d2 : decide (8 < room) = true := by simp; omega
    clear h
    go_enter Try.func9, Try.ntmps9
    go_wp2
    go_ret2
    exact ⟨rfl, Below.refl _ _⟩
def mRow (room : Int) (j : Nat) : Value := if j = 0 then .int .i64 room else .slice none 0 0
theorem sizeBnd : (Try.prog.info? 53).map (·.size) = some 2 := by kernel_rfl
set_option maxRecDepth 100000 in
theorem bmake_any (room : Int) (w : World) :
    Calls Try.prog 18 #[.int .i64 room] w fun e w' => e = .returned (.agg #[.int .i64 room, .slice none 0 0]) ∧ Below w.heap.size w w' := by
  go_enter Try.func18, Try.ntmps18
  go_wp2
  have q5 : (w.alloc (.cells #[.int .i64 room, .slice none 0 0] 53)).rowIs w.heap.size 53 2 (mRow room) := World.rowIs_alloc w #[.int .i64 room, .slice none 0 0] 53 (mRow room) (fun i hi => by
      have hi' : i < 2 := hi
      match i, hi' with
      | 0, _ => rfl
      | 1, _ => rfl)
  have hr := run_loadVar_rowIs (P := Try.prog) _ w.heap.size 53 53 2 (mRow room) _ q5 Try.underlying53 rfl sizeBnd
  refine bodyPost_ret (v := .agg (arrOf 2 (mRow room))) ?_ rfl ⟨rfl, (Below.refl _ _).alloc (Nat.le_refl _) _⟩
  simp [results, Try.results18, asAddr, hr]
set_option maxRecDepth 100000 in
theorem pg_new (room : Int) (w : World) (h : ¬ (room < 1 ∨ 8 < room)) :
    Calls Try.prog 9 #[.int .i64 room] w fun e w' => ∃ p F, e = .returned (.tuple #[.pointer (some ⟨p, 0, none⟩), .int .i64 0]) ∧ PS w' p F room [] ∧ (∀ k, F k → w.heap.size ≤ k) ∧ Below w.heap.size w w' := by
  have d1 : decide (room < 1) = false := by simp; omega
  have d2 : decide (8 < room) = false := by simp; omega
  have H := hid (bmake_any room w)
  go_enter Try.func9, Try.ntmps9
  go_wp2_with fail
  refine Calls.mono H.out ?_
  rintro e w1 ⟨rfl, b1⟩
  go_wp2
  go_ret2
  have hs := b1.size
  have hb : Below w1.heap.size w1 (w1.alloc (.cells #[.int .i64 room, .slice none 0 0, .slice none 0 0] 59)) := (Below.refl _ _).alloc (Nat.le_refl _) _
  refine ⟨w1.heap.size, fun k => k = w1.heap.size, rfl, ⟨w1.heap.size + 1, .slice none 0 0, .slice none 0 0, fun _ => ⟨#[]⟩, 0, fun _ => ⟨⟨#[]⟩, ⟨#[]⟩, 0, 0⟩, 0, ⟨?_, by omega, World.ownsRow_nil _ _ _ _, World.ownsRow_nil _ _ _ _⟩, by simp, by omega, by omega, BdL.nil room _ (by omega), ShL.nil _, fun k => ⟨fun q => .inl q, fun q => q.elim id (fun q => q.elim (fun q => by simp [Value.ownBlock] at q) (fun q => by simp [Value.ownBlock] at q))⟩⟩, fun k hk => by omega, b1.trans (hb.mono b1.size)⟩
  exact World.rowIs_alloc w1 #[.int .i64 room, .slice none 0 0, .slice none 0 0] 59 (psRow room (.slice none 0 0) (.slice none 0 0)) (fun i hi => by
      have hi' : i < 3 := hi
      match i, hi' with
      | 0, _ => rfl
      | 1, _ => rfl
      | 2, _ => rfl)
set_option maxRecDepth 100000 in
theorem pg_remove (p : Nat) (F : Nat → Prop) (room : Int) (l : List Ev) (id : Int) (w : World) (h : PS w p F room l) (_hl : KN l) (hL : LogOk l) :
    Calls Try.prog 22 #[.pointer (some ⟨p, 0, none⟩), .int .i64 id] w fun e w' => e = .returned (.int .i64 (rmAns l id).1) ∧ ∃ F', PS w' p F' room (rmAns l id).2 ∧ ChgF F w w' ∧ GrowF w F F' := by
  obtain ⟨B, vb, vs, fl, m, sp, n, h1, hB, r1, r2, h3, h5, h4⟩ := h
  have hrm := h3.rm
  have H := hid (unbind_any p B room vb vs fl m sp n l id w h1 (by omega) h3 hL hB)
  have hp := h1.lt
  have HA := hid (show rmAns l id = if fileOf l id = ⟨#[]⟩ then (8, l) else (0, l ++ [⟨2, id, ⟨#[]⟩, ⟨#[]⟩⟩]) from rfl)
  generalize rmAns l id = A at *
  go_enter Try.func22, Try.ntmps22
  go_wp2_with fail
  refine Calls.mono H.out ?_
  rintro e w1 ⟨vb', fl', m', q1, q2, q3, q4⟩
  rcases q4 with ⟨c, rfl, q5⟩ | ⟨c, rfl, q5⟩
  · have HA2 := hid (show A = (8, l) from by rw [HA.out, if_pos c])
    clear HA
    go_wp2
    go_ret
    rw [HA2.out]
    exact ⟨rfl, ps_toB h4 hB r1 r2 q1 q2 q3 q5 h5⟩
  · have HA2 := hid (show A = (0, l ++ [⟨2, id, ⟨#[]⟩, ⟨#[]⟩⟩]) from by rw [HA.out, if_neg c])
    clear HA
    go_wp2
    go_ret
    rw [HA2.out]
    exact ⟨rfl, ps_toB h4 hB r1 r2 q1 q2 q3 q5 (h5.same _ (by show (2 : Nat) ≠ 3; decide))⟩
set_option maxRecDepth 100000 in
theorem isKey_any (k : ByteArray) (w : World) (hk : k.size ≤ maxLen) :
    Calls Try.prog 51 #[.string k] w fun e w' => e = .returned (.bool (decide (1 ≤ k.size ∧ k.size ≤ 8))) ∧ w' = w := by
  unfold maxLen at hk
  have hb : decide (1 ≤ k.size ∧ k.size ≤ 8) = (decide (1 ≤ k.size) && decide (k.size ≤ 8)) := by simp
  rw [hb]
  by_cases h1 : 1 ≤ k.size
  · have d1 : decide (1 ≤ (k.size : Int)) = true := by simp; omega
    have d1' : decide (1 ≤ k.size) = true := by simp [h1]
    have d2 : decide ((k.size : Int) ≤ 8) = decide (k.size ≤ 8) := by rw [Bool.eq_iff_iff]; simp; omega
    rw [d1']
    clear hb
    go_enter Try.func51, Try.ntmps51
    go_wp2
    go_ret
    exact ⟨by simp, rfl⟩
  · have d1 : decide (1 ≤ (k.size : Int)) = false := by simp; omega
    have d1' : decide (1 ≤ k.size) = false := decide_eq_false h1
    rw [d1']
    clear hb
    go_enter Try.func51, Try.ntmps51
    go_wp2
    go_ret
    exact ⟨by simp, rfl⟩
/-- What Bind has done, seen from an elder world. -/
def BPost (w : World) (p B : Nat) (room : Int) (vb vs : Value) (sp : Nat → Spt) (n : Nat) (l : List Ev) (w' : World) : Prop :=
  ∃ vb' fl' m', PMm w' p B room vb' vs fl' m' sp n ∧ ChgF (fun q => q = p ∨ vb.ownBlock = some q) w w' ∧ LiesF w vb vb' ∧ BdL l room fl' m'
section
variable (p B : Nat) (room : Int) (vb vs : Value) (fl : Nat → ByteArray) (m : Nat) (sp : Nat → Spt) (n : Nat) (l : List Ev) (f : ByteArray) (w w5 : World)
theorem bind_full (hc : ChgF (fun q => q = p ∨ vb.ownBlock = some q) w w5) (h : PMm w5 p B room vb vs fl m sp n) (hm : m ≤ 8) (hL : BdL l room fl m) (hO : LogOk l) (hf : pOk f) (hB : B ≤ w.heap.size) (hF : FullB l room f) :
    Calls Try.prog 19 #[.pointer (some ⟨p, 0, none⟩), flAgg f] w5 fun e w' => e = .returned (.bool false) ∧ BPost w p B room vb vs sp n l w' ∧ ChgF (fun q => q = p ∨ vb.ownBlock = some q) w5 w' := by
  refine Calls.mono (bind_any p B room vb vs fl m sp n l f w5 h hm hL hO hf (Nat.le_trans hB hc.size)) ?_
  rintro e w' ⟨vb', fl', m', q1, q2, q3, q4⟩
  rcases q4 with ⟨_, rfl, q5⟩ | ⟨c, _⟩
  · exact ⟨rfl, ⟨vb', fl', m', q1, hc.trans q2 (fun _ _ q => q), fun g hg => (q3 g hg).elim .inl (fun q => .inr (Nat.le_trans hc.size q)), q5⟩, q2⟩
  · exact absurd hF c
theorem bind_room (hc : ChgF (fun q => q = p ∨ vb.ownBlock = some q) w w5) (h : PMm w5 p B room vb vs fl m sp n) (hm : m ≤ 8) (hL : BdL l room fl m) (hO : LogOk l) (hf : pOk f) (hB : B ≤ w.heap.size) (hF : ¬ FullB l room f) :
    Calls Try.prog 19 #[.pointer (some ⟨p, 0, none⟩), flAgg f] w5 fun e w' => e = .returned (.bool true) ∧ BPost w p B room vb vs sp n (l ++ [⟨1, (num f 3 2 : Int), ⟨#[]⟩, f⟩]) w' ∧ ChgF (fun q => q = p ∨ vb.ownBlock = some q) w5 w' := by
  refine Calls.mono (bind_any p B room vb vs fl m sp n l f w5 h hm hL hO hf (Nat.le_trans hB hc.size)) ?_
  rintro e w' ⟨vb', fl', m', q1, q2, q3, q4⟩
  rcases q4 with ⟨c, _⟩ | ⟨_, rfl, q5⟩
  · exact absurd c hF
  · exact ⟨rfl, ⟨vb', fl', m', q1, hc.trans q2 (fun _ _ q => q), fun g hg => (q3 g hg).elim .inl (fun q => .inr (Nat.le_trans hc.size q)), q5⟩, q2⟩
end
theorem chg_cell {F : Nat → Prop} {w w' : World} (h : ChgF F w w') (a : Addr) (hl : a.block < w.heap.size) (hn : ¬ F a.block) : w'.cell? a = w.cell? a := World.cell?_of_block (h.block a.block hl hn)
theorem rgAns_no {l : List Ev} {room : Int} {f : ByteArray} (h : ¬ pOk f) : rgAns l room f = (0, 6, l) := by
  have : pOkB f = false := by
    cases hq : pOkB f
    · rfl
    · exact absurd ((pOkB_iff f).1 hq) h
  unfold rgAns; rw [if_pos this]
theorem rgAns_full {l : List Ev} {room : Int} {f : ByteArray} (h : pOk f) (hF : FullB l room f) : rgAns l room f = (0, 11, l) := by
  unfold rgAns; rw [if_neg (by rw [(pOkB_iff f).2 h]; simp), if_pos (show fileOf l (num f 3 2 : Int) = ⟨#[]⟩ ∧ room ≤ (idsOf l : Int) from hF)]
theorem rgAns_room {l : List Ev} {room : Int} {f : ByteArray} (h : pOk f) (hF : ¬ FullB l room f) : rgAns l room f = ((num f 3 2 : Int), 0, l ++ [⟨1, (num f 3 2 : Int), ⟨#[]⟩, f⟩]) := by
  unfold rgAns; rw [if_neg (by rw [(pOkB_iff f).2 h]; simp), if_neg (show ¬ (fileOf l (num f 3 2 : Int) = ⟨#[]⟩ ∧ room ≤ (idsOf l : Int)) from hF)]
set_option maxRecDepth 100000 in
set_option maxHeartbeats 1600000 in
theorem pg_register (p : Nat) (F : Nat → Prop) (room : Int) (l : List Ev) (f : ByteArray) (w : World) (h : PS w p F room l) (_hl : KN l) (hL : LogOk l) (hf : f.size ≤ maxLen) :
    Calls Try.prog 10 #[.pointer (some ⟨p, 0, none⟩), .string f] w fun e w' => e = .returned (.tuple #[.int .i64 (rgAns l room f).1, .int .i64 (rgAns l room f).2.1]) ∧ ∃ F', PS w' p F' room (rgAns l room f).2.2 ∧ ChgF F w w' ∧ GrowF w F F' := by
  have HPS := hid h
  obtain ⟨B, vb, vs, fl, m, sp, n, h1, hB, r1, r2, h3, h5, h4⟩ := h
  have hrm := h3.rm
  have hp := h1.lt
  have HR := hid (fileRead_any f w hf)
  by_cases h : pOk f
  · have HPA := hid (show pAns f = ((num f 3 2 : Int), (pAns f).2.1, (pAns f).2.2.1, 0) from by rw [pAns_yes h])
    have HAG := hid (show flAgg f = .agg #[.int .i64 (num f 3 2 : Int), .string (pAns f).2.1, .string (pAns f).2.2.1, .int .i64 (wSum (f.extract 0 (pE f)) : Nat)] from rfl)
    rw [fSum_yes h, HPA.out] at HR
    simp only [decide_true] at HR
    have hn := num_lt f 3 2
    have hws := wSum_lt (f.extract 0 (pE f))
    have hvl := hid (fun q (hq : vb.ownBlock = some q) => (h1.bd.lt q hq).2)
    by_cases hF : FullB l room f
    · have HA := hid (rgAns_full h hF)
      have HBD := hid (fun w5 hc h => bind_full p B room vb vs fl m sp n l f w w5 hc h (by omega) h3 hL ‹pOk f› hB hF)
      rw [HA.out]
      rw [HAG.out] at HBD
      clear HPA HAG HA h hF
      generalize (pAns f).2.1 = T at *
      generalize (pAns f).2.2.1 = C at *
      generalize num f 3 2 = N at *
      generalize wSum (f.extract 0 (pE f)) = S at *
      go_enter Try.func10, Try.ntmps10
      go_wp2_with fail
      refine Calls.mono HR.out ?_
      rintro e w1 ⟨rfl, b1⟩
      have hq := fRow_new w1
      have hs1 := b1.size
      have NX := hid (show ¬ (w1.heap.size = p ∨ vb.ownBlock = some w1.heap.size) from fun q => q.elim (fun q => by omega) (fun q => by have := hvl.out _ q; omega))
      go_wp2_with (first
        | (refine wpList_store_rowIs rfl 48 (.tmp 6) (.tmp 12) rfl w1.heap.size rfl 48 4 (fRow 0 ⟨#[]⟩ ⟨#[]⟩ 0) (fRow (N : Int) T C (S : Int)) hq rfl sizeFile (fun i _ => fRow_one _ _ _ _ i) ?_
           intro w5 q5 b5 o5 s5
           have y0 := (FlAt.of_row q5).c0
           have y1 := (FlAt.of_row q5).c1
           have y2 := (FlAt.of_row q5).c2
           have y3 := (FlAt.of_row q5).c3
           have yl := (FlAt.of_row q5).lt
           have hB5 := (b1.alloc b1.size (.cells #[.int .i64 0, .string ⟨#[]⟩, .string ⟨#[]⟩, .int .i64 0] 48)).trans (b5.mono b1.size)
           have hM5 := h1.below hB5))
      go_region_held3 (fun w' => w'.cell? ⟨w1.heap.size, 0, none⟩ = some (.int .i64 (N : Int)) ∧ w'.cell? ⟨w1.heap.size, 1, none⟩ = some (.string T) ∧ w'.cell? ⟨w1.heap.size, 2, none⟩ = some (.string C) ∧ w'.cell? ⟨w1.heap.size, 3, none⟩ = some (.int .i64 (S : Int)))
        (first | go_keep | (refine ⟨?_, ?_, ?_, ?_⟩ <;> assumption) | assumption)
        (first | (go_at_call 19; refine (HBD.out _ (by exact ⟨hB5.os, hB5.tape, hB5.output, hB5.size, fun k hk _ => hB5.block k hk⟩) (by exact ⟨hM5.row, hM5.lo, hM5.bd, hM5.sh⟩)).mono ?_; rintro e w6 ⟨rfl, HQ, hC⟩; have jj := hid (fun i => chg_cell hC ⟨w1.heap.size, i, none⟩ yl NX.out); have j0 := (jj.out 0).trans y0; have j1 := (jj.out 1).trans y1; have j2 := (jj.out 2).trans y2; have j3 := (jj.out 3).trans y3))
      go_wp2
      go_ret2
      obtain ⟨vb', fl', m', g1, g2, g3, g5⟩ := HQ
      exact ⟨rfl, ps_toB h4 hB r1 r2 g1 g2 g3 g5 h5⟩
    · have HA := hid (rgAns_room h hF)
      have HBD := hid (fun w5 hc h => bind_room p B room vb vs fl m sp n l f w w5 hc h (by omega) h3 hL ‹pOk f› hB hF)
      have HS := hid (h5.same ⟨1, (num f 3 2 : Int), ⟨#[]⟩, f⟩ (by show (1 : Nat) ≠ 3; decide))
      rw [HA.out]
      rw [HAG.out] at HBD
      clear HPA HAG HA h hF
      generalize (pAns f).2.1 = T at *
      generalize (pAns f).2.2.1 = C at *
      generalize num f 3 2 = N at *
      generalize wSum (f.extract 0 (pE f)) = S at *
      go_enter Try.func10, Try.ntmps10
      go_wp2_with fail
      refine Calls.mono HR.out ?_
      rintro e w1 ⟨rfl, b1⟩
      have hq := fRow_new w1
      have hs1 := b1.size
      have NX := hid (show ¬ (w1.heap.size = p ∨ vb.ownBlock = some w1.heap.size) from fun q => q.elim (fun q => by omega) (fun q => by have := hvl.out _ q; omega))
      go_wp2_with (first
        | (refine wpList_store_rowIs rfl 48 (.tmp 6) (.tmp 12) rfl w1.heap.size rfl 48 4 (fRow 0 ⟨#[]⟩ ⟨#[]⟩ 0) (fRow (N : Int) T C (S : Int)) hq rfl sizeFile (fun i _ => fRow_one _ _ _ _ i) ?_
           intro w5 q5 b5 o5 s5
           have y0 := (FlAt.of_row q5).c0
           have y1 := (FlAt.of_row q5).c1
           have y2 := (FlAt.of_row q5).c2
           have y3 := (FlAt.of_row q5).c3
           have yl := (FlAt.of_row q5).lt
           have hB5 := (b1.alloc b1.size (.cells #[.int .i64 0, .string ⟨#[]⟩, .string ⟨#[]⟩, .int .i64 0] 48)).trans (b5.mono b1.size)
           have hM5 := h1.below hB5))
      go_region_held3 (fun w' => w'.cell? ⟨w1.heap.size, 0, none⟩ = some (.int .i64 (N : Int)) ∧ w'.cell? ⟨w1.heap.size, 1, none⟩ = some (.string T) ∧ w'.cell? ⟨w1.heap.size, 2, none⟩ = some (.string C) ∧ w'.cell? ⟨w1.heap.size, 3, none⟩ = some (.int .i64 (S : Int)))
        (first | go_keep | (refine ⟨?_, ?_, ?_, ?_⟩ <;> assumption) | assumption)
        (first | (go_at_call 19; refine (HBD.out _ (by exact ⟨hB5.os, hB5.tape, hB5.output, hB5.size, fun k hk _ => hB5.block k hk⟩) (by exact ⟨hM5.row, hM5.lo, hM5.bd, hM5.sh⟩)).mono ?_; rintro e w6 ⟨rfl, HQ, hC⟩; have jj := hid (fun i => chg_cell hC ⟨w1.heap.size, i, none⟩ yl NX.out); have j0 := (jj.out 0).trans y0; have j1 := (jj.out 1).trans y1; have j2 := (jj.out 2).trans y2; have j3 := (jj.out 3).trans y3))
      go_wp2
      go_ret2
      obtain ⟨vb', fl', m', g1, g2, g3, g5⟩ := HQ
      exact ⟨rfl, ps_toB h4 hB r1 r2 g1 g2 g3 g5 HS.out⟩
  · have HA := hid (rgAns_no (l := l) (room := room) h)
    rw [HA.out]
    rw [fSum_no h, pAns_no h] at HR
    have hd : decide ((6 : Int) = 0) = false := rfl
    simp only [hd] at HR
    clear h HA hd
    go_enter Try.func10, Try.ntmps10
    go_wp2_with fail
    refine Calls.mono HR.out ?_
    rintro e w1 ⟨rfl, b1⟩
    have hq := fRow_new w1
    go_wp2_with (refine wpList_store_rowIs rfl 48 (.tmp 6) (.tmp 12) rfl w1.heap.size rfl 48 4 (fRow 0 ⟨#[]⟩ ⟨#[]⟩ 0) (fRow 0 ⟨#[]⟩ ⟨#[]⟩ 0) hq rfl sizeFile (fun i _ => fRow_one _ _ _ _ i) ?_; intro w5 q5 b5 o5 s5)
    go_ret2
    have hB5 := (b1.alloc b1.size (.cells #[.int .i64 0, .string ⟨#[]⟩, .string ⟨#[]⟩, .int .i64 0] 48)).trans (b5.mono b1.size)
    exact ⟨rfl, F, HPS.out.kept hB5.size (fun k hk => hB5.block k (HPS.out.lt k hk)), ChgF.ofBelow hB5, GrowF.refl _ _⟩
end Go.Proofs.Ytnconbpneimjiaa

/-! ###  P14, P15: the program's store: Put, Get. -/
namespace Go.Proofs.Ytnconbpneimjiaa
open Go.RowKit Go.PlainAid

theorem putAns_key {l : List Ev} {ky r : ByteArray} {id : Int} (h : ky.size < 1 ∨ 8 < ky.size) : putAns l ky r id = (0, 12, l) := by unfold putAns; rw [if_pos h]
theorem putAns_long {l : List Ev} {ky r : ByteArray} {id : Int} (h : ¬ (ky.size < 1 ∨ 8 < ky.size)) (h2 : 500 < r.size) : putAns l ky r id = (0, 1, l) := by unfold putAns; rw [if_neg h, if_pos h2]
theorem putAns_unk {l : List Ev} {ky r : ByteArray} {id : Int} (h : ¬ (ky.size < 1 ∨ 8 < ky.size)) (h2 : ¬ 500 < r.size) (h3 : fileOf l id = ⟨#[]⟩) : putAns l ky r id = (0, 8, l) := by unfold putAns; rw [if_neg h, if_neg h2, if_pos h3]
theorem putAns_ok {l : List Ev} {ky r : ByteArray} {id : Int} (h : ¬ (ky.size < 1 ∨ 8 < ky.size)) (h2 : ¬ 500 < r.size) (h3 : fileOf l id ≠ ⟨#[]⟩) (h4 : pOk (fileOf l id)) : putAns l ky r id = (((enFrm (fileOf l id) r).size : Int), 0, l ++ [⟨3, 0, ky, enFrm (fileOf l id) r⟩]) := by
  unfold putAns; rw [if_neg h, if_neg h2, if_neg h3, enAns_ok h2 h4]
theorem foV_u {f : ByteArray} (h : f = ⟨#[]⟩) : foV f = .tuple #[fileV 0 ⟨#[]⟩ ⟨#[]⟩ 0, .bool false] := by unfold foV; rw [if_pos h]
theorem foV_b {f : ByteArray} (h : f ≠ ⟨#[]⟩) : foV f = .tuple #[fileV (num f 3 2 : Int) (pAns f).2.1 (pAns f).2.2.1 (wSum (f.extract 0 (pE f)) : Nat), .bool true] := by unfold foV; rw [if_neg h]
set_option maxRecDepth 100000 in
set_option maxHeartbeats 1600000 in
theorem pg_put (p : Nat) (F : Nat → Prop) (room : Int) (l : List Ev) (ky r : ByteArray) (id : Int) (w : World) (h : PS w p F room l) (hl : KN l) (hL : LogOk l) (hk : ky.size ≤ maxLen) (hr : r.size ≤ maxLen) :
    Calls Try.prog 37 #[.pointer (some ⟨p, 0, none⟩), .string ky, .string r, .int .i64 id] w fun e w' => e = .returned (.tuple #[.int .i64 (putAns l ky r id).1, .int .i64 (putAns l ky r id).2.1]) ∧ ∃ F', PS w' p F' room (putAns l ky r id).2.2 ∧ ChgF F w w' ∧ GrowF w F F' := by
  have HPS := hid h
  obtain ⟨B, vb, vs, fl, m, sp, n, h1, hB, r1, r2, h3, h5, h4⟩ := h
  have hn := h5.count hl
  have hrm := h3.rm
  have hp := h1.lt
  have HK := hid (isKey_any ky w hk)
  unfold maxLen at hr
  by_cases c : ky.size < 1 ∨ 8 < ky.size
  · have HA := hid (putAns_key (l := l) (r := r) (id := id) c)
    rw [decide_eq_false (show ¬ (1 ≤ ky.size ∧ ky.size ≤ 8) from by omega)] at HK
    rw [HA.out]
    clear c
    go_enter Try.func37, Try.ntmps37
    go_wp2_with fail
    refine Calls.mono HK.out ?_
    rintro e w1 ⟨rfl, k1⟩
    rw [k1]
    clear k1 w1
    go_wp2
    go_ret2
    exact ⟨rfl, F, HPS.out, ChgF.refl _ _, GrowF.refl _ _⟩
  · rw [decide_eq_true (show (1 ≤ ky.size ∧ ky.size ≤ 8) from by omega)] at HK
    by_cases c2 : 500 < r.size
    · have HA := hid (putAns_long (l := l) (id := id) c c2)
      have c2' : (500 : Int) < (r.size : Int) := by omega
      rw [HA.out]
      clear c
      go_enter Try.func37, Try.ntmps37
      go_wp2_with fail
      refine Calls.mono HK.out ?_
      rintro e w1 ⟨rfl, k1⟩
      rw [k1]
      clear k1 w1
      go_wp2
      go_ret2
      exact ⟨rfl, F, HPS.out, ChgF.refl _ _, GrowF.refl _ _⟩
    · have c2' : ¬ (500 : Int) < (r.size : Int) := by omega
      have HO := hid (bof_any p B room vb vs fl m sp n l id w h1 (by omega) h3)
      by_cases c3 : fileOf l id = ⟨#[]⟩
      · have HA := hid (putAns_unk c c2 c3)
        rw [HA.out]
        rw [foV_u c3] at HO
        clear c c3
        go_enter Try.func37, Try.ntmps37
        go_wp2_with fail
        refine Calls.mono HK.out ?_
        rintro e w1 ⟨rfl, k1⟩
        rw [k1]
        clear k1 w1
        go_wp2_with fail
        refine Calls.mono HO.out ?_
        rintro e w1 ⟨rfl, b1⟩
        have hq := fRow_new w1
        go_wp2_with (refine wpList_store_rowIs rfl 48 (.tmp 10) (.tmp 25) rfl w1.heap.size rfl 48 4 (fRow 0 ⟨#[]⟩ ⟨#[]⟩ 0) (fRow 0 ⟨#[]⟩ ⟨#[]⟩ 0) hq rfl sizeFile (fun i _ => fRow_one _ _ _ _ i) ?_; intro w5 q5 b5 o5 s5)
        go_ret2
        have hB5 := (b1.alloc b1.size (.cells #[.int .i64 0, .string ⟨#[]⟩, .string ⟨#[]⟩, .int .i64 0] 48)).trans (b5.mono b1.size)
        exact ⟨rfl, F, HPS.out.kept hB5.size (fun k hk => hB5.block k (HPS.out.lt k hk)), ChgF.ofBelow hB5, GrowF.refl _ _⟩
      · have hok := (hL.bound id c3).1
        have HA := hid (putAns_ok c c2 c3 hok)
        rw [HA.out]
        rw [foV_b c3] at HO
        obtain ⟨hcz, hf13⟩ := pOk_con hok
        have htz : (pAns (fileOf l id)).2.1.size ≤ maxLen := (par_cases (fileOf l id)).elim (fun q => by rw [pAns_yes hok] at q; simp at q) (fun q => q.2.2.2.1)
        have hnm := num_lt (fileOf l id) 3 2
        have hws := wSum_lt ((fileOf l id).extract 0 (pE (fileOf l id)))
        have HW := hid (fun b w h => fwrite_any (num (fileOf l id) 3 2) (wSum ((fileOf l id).extract 0 (pE (fileOf l id)))) b (pAns (fileOf l id)).2.1 (pAns (fileOf l id)).2.2.1 r w h (by omega) hws htz hcz (by omega))
        rw [frW_is hok] at HW
        have hez := (dec_enc_frm hok (show r.size ≤ 500 from by omega)).2.1
        have HLY := hid (fun w6 (hM : PMm w6 p B room vb vs fl m sp n) (hb : B ≤ w6.heap.size) => lay_any p B room vb vs fl m sp n l ky (enFrm (fileOf l id) r) w6 hM h5 hk hb (by omega))
        clear c c3 HA hok hcz hf13 htz
        generalize enFrm (fileOf l id) r = FR at *
        generalize (pAns (fileOf l id)).2.1 = T at *
        generalize (pAns (fileOf l id)).2.2.1 = C at *
        generalize wSum ((fileOf l id).extract 0 (pE (fileOf l id))) = S at *
        generalize num (fileOf l id) 3 2 = N at *
        go_enter Try.func37, Try.ntmps37
        go_wp2_with fail
        refine Calls.mono HK.out ?_
        rintro e w1 ⟨rfl, k1⟩
        rw [k1]
        clear k1 w1
        go_wp2_with fail
        refine Calls.mono HO.out ?_
        rintro e w1 ⟨rfl, b1⟩
        have hq := fRow_new w1
        go_wp2_with (refine wpList_store_rowIs rfl 48 (.tmp 10) (.tmp 25) rfl w1.heap.size rfl 48 4 (fRow 0 ⟨#[]⟩ ⟨#[]⟩ 0) (fRow (N : Int) T C (S : Int)) hq rfl sizeFile (fun i _ => fRow_one _ _ _ _ i) ?_; intro w5 q5 b5 o5 s5)
        have hFL := hid (FlAt.of_row q5)
        have hB5 := hid ((b1.alloc b1.size (.cells #[.int .i64 0, .string ⟨#[]⟩, .string ⟨#[]⟩, .int .i64 0] 48)).trans (b5.mono b1.size))
        clear q5 o5 s5 hq
        refine Calls.mono (HW.out _ _ hFL.out) ?_
        rintro e w6 ⟨rfl, b6⟩
        have hB6 := hid (hB5.out.trans (b6.mono hB5.out.size))
        have hM6 := hid (h1.below hB6.out)
        go_wp2_with fail
        refine Calls.mono (HLY.out w6 hM6.out (Nat.le_trans hB hB6.out.size)) ?_
        rintro e w7 ⟨rfl, vs', sp', n', q1, q2, q3, q4⟩
        go_wp2
        go_ret2
        exact ⟨rfl, ps_toS h4 hB r1 r2 q1 ((ChgF.ofBelow hB6.out).trans q3 (fun _ _ q => q)) (fun g hg => (q4 g hg).elim .inl (fun q => .inr (Nat.le_trans hB6.out.size q))) (h3.same _ rfl) q2⟩
theorem far4 {w : World} {b c i : Nat} {x : Option Value} (u0 u1 u2 u3 : Value) (h : b ≠ c) (hx : w.cell? ⟨c, i, none⟩ = x) : ((((w.setCell ⟨b, 0, none⟩ u0).setCell ⟨b, 1, none⟩ u1).setCell ⟨b, 2, none⟩ u2).setCell ⟨b, 3, none⟩ u3).cell? ⟨c, i, none⟩ = x := by
  rw [World.cell?_setCell_far _ _ _ _ (by exact h), World.cell?_setCell_far _ _ _ _ (by exact h), World.cell?_setCell_far _ _ _ _ (by exact h), World.cell?_setCell_far _ _ _ _ (by exact h)]
  exact hx
theorem set4_row {w : World} {b : Nat} {f0 : Nat → Value} (i : Int) (t c : ByteArray) (s : Int) (h : w.rowIs b 48 4 f0) : ((((w.setCell ⟨b, 0, none⟩ (.int .i64 i)).setCell ⟨b, 1, none⟩ (.string t)).setCell ⟨b, 2, none⟩ (.string c)).setCell ⟨b, 3, none⟩ (.int .i64 s)).rowIs b 48 4 (fRow i t c s) :=
  World.rowIs.congr (World.rowIs.set (World.rowIs.set (World.rowIs.set (World.rowIs.set h 0 (.int .i64 i)) 1 (.string t)) 2 (.string c)) 3 (.int .i64 s)) (fun j hj => by match j, hj with | 0, _ => rfl | 1, _ => rfl | 2, _ => rfl | 3, _ => rfl)
theorem set4_block {w : World} {b k : Nat} (u0 u1 u2 u3 : Value) (h : k ≠ b) : ((((w.setCell ⟨b, 0, none⟩ u0).setCell ⟨b, 1, none⟩ u1).setCell ⟨b, 2, none⟩ u2).setCell ⟨b, 3, none⟩ u3).heap[k]? = w.heap[k]? := by
  rw [Below.heap_setCell _ _ _ _ (by exact h), Below.heap_setCell _ _ _ _ (by exact h), Below.heap_setCell _ _ _ _ (by exact h), Below.heap_setCell _ _ _ _ (by exact h)]
theorem set4_below {w w' : World} {B b : Nat} (u0 u1 u2 u3 : Value) (h : Below B w w') (hb : B ≤ b) : Below B w ((((w'.setCell ⟨b, 0, none⟩ u0).setCell ⟨b, 1, none⟩ u1).setCell ⟨b, 2, none⟩ u2).setCell ⟨b, 3, none⟩ u3) :=
  (((h.setCell (p := ⟨b, 0, none⟩) hb u0).setCell (p := ⟨b, 1, none⟩) hb u1).setCell (p := ⟨b, 2, none⟩) hb u2).setCell (p := ⟨b, 3, none⟩) hb u3
theorem fRow_lay (w : World) (i : Int) (t c : ByteArray) (s : Int) : (w.alloc (.cells #[.int .i64 i, .string t, .string c, .int .i64 s] 48)).rowIs w.heap.size 48 4 (fRow i t c s) :=
  World.rowIs_alloc w #[.int .i64 i, .string t, .string c, .int .i64 s] 48 (fRow i t c s) (fun i hi => by
    have hi' : i < 4 := hi
    match i, hi' with
    | 0, _ => rfl
    | 1, _ => rfl
    | 2, _ => rfl
    | 3, _ => rfl)
theorem HdAt.kept {w w' : World} {b : Nat} {p : Bool} {i s z m : Int} (h : HdAt w b p i s z m) (hs : w.heap.size ≤ w'.heap.size) (hb : w'.heap[b]? = w.heap[b]?) : HdAt w' b p i s z m where
  lt := Nat.lt_of_lt_of_le h.lt hs
  c0 := (World.cell?_of_block hb).trans h.c0
  c1 := (World.cell?_of_block hb).trans h.c1
  c2 := (World.cell?_of_block hb).trans h.c2
  c3 := (World.cell?_of_block hb).trans h.c3
  c4 := (World.cell?_of_block hb).trans h.c4
theorem bel_dr {w w' : World} (b : Below w.drew.heap.size w.drew w') : Below w.heap.size w w' := ⟨b.os, b.tape, b.output, b.size, b.block⟩
theorem fnew_row {w7 w8 : World} (b8 : Below (w7.alloc (.cells #[.int .i64 0, .string ⟨#[]⟩, .string ⟨#[]⟩, .int .i64 0] 48)).drew.heap.size (w7.alloc (.cells #[.int .i64 0, .string ⟨#[]⟩, .string ⟨#[]⟩, .int .i64 0] 48)).drew w8) : w8.rowIs w7.heap.size 48 4 (fRow 0 ⟨#[]⟩ ⟨#[]⟩ 0) :=
  World.rowIs.of_block (fRow_new w7) (b8.block w7.heap.size (by simp))
set_option maxRecDepth 100000 in
set_option maxHeartbeats 3200000 in
theorem pg_get (p : Nat) (F : Nat → Prop) (room : Int) (l : List Ev) (ky : ByteArray) (w : World) (h : PS w p F room l) (hL : LogOk l) (hk : ky.size ≤ maxLen) :
    Calls Try.prog 24 #[.pointer (some ⟨p, 0, none⟩), .string ky] w fun e w' => e = .returned (.tuple #[.string (getAns l ky).1, .int .i64 (getAns l ky).2]) ∧ Below w.heap.size w w' := by
  obtain ⟨B, vb, vs, fl, m, sp, n, h1, hB, r1, r2, h3, h5, h4⟩ := h
  have hrm := h3.rm
  have hp := h1.lt
  have HLK := hid (look_any p B room vb vs fl m sp n l ky w h1 h5 hk)
  have HA := hid (show getAns l ky = match frmOf l ky with
    | none => ((⟨#[]⟩, 12) : ByteArray × Int)
    | some fr => if hdB fr = false then (⟨#[]⟩, 7) else if fileOf l (num fr 2 2 : Int) = ⟨#[]⟩ then (⟨#[]⟩, 8) else dcAns (fileOf l (num fr 2 2 : Int)) fr from rfl)
  have HFZ := hid (fun fr => hL.frm ky fr)
  generalize getAns l ky = A at *
  generalize frmOf l ky = O at *
  cases O with
  | none =>
    simp only [lkV] at HLK
    rw [HA.out]
    clear HA
    go_enter Try.func24, Try.ntmps24
    go_wp2_with fail
    refine Calls.mono HLK.out ?_
    rintro e w1 ⟨rfl, b1⟩
    go_wp2
    go_ret2
    exact ⟨rfl, b1⟩
  | some g =>
    have hgz := HFZ.out g rfl
    simp only [lkV] at HLK
    simp only at HA
    by_cases hH : hdB g = false
    · rw [if_pos hH] at HA
      rw [HA.out]
      have HH := hid (fun w => rhead_no g w (by omega) hH)
      clear HA hH
      go_enter Try.func24, Try.ntmps24
      go_wp2_with fail
      refine Calls.mono HLK.out ?_
      rintro e w1 ⟨rfl, b1⟩
      go_wp2_with fail
      refine Calls.mono (HH.out _) ?_
      rintro e w6 ⟨rfl, b6⟩
      have hq6 := hRow_lay w6 false 0 0 0 0
      have hB6 := hid (b1.trans (b6.mono b1.size))
      go_wp2_with (refine wpList_store_rowIs rfl 82 (.tmp 8) (.tmp 25) rfl w6.heap.size rfl 82 5 (hRow false 0 0 0 0) (hRow false 0 0 0 0) hq6 rfl sizeHead (fun i _ => hRow_one _ _ _ _ _ i) ?_; intro w7 q7 b7 o7 s7)
      go_ret2
      exact ⟨rfl, (hB6.out.alloc hB6.out.size _).trans (b7.mono hB6.out.size)⟩
    · rw [if_neg hH] at HA
      have hH1 : hdB g = true := by cases hq : hdB g <;> simp_all
      have HH := hid (fun w => rhead_yes g w (by omega) hH1)
      have l2 := num_lt g 2 2
      have l4 := num_lt g 4 4
      have l10 := num_lt g 10 4
      have HO := hid (fun w6 (hM : PMm w6 p B room vb vs fl m sp n) => bof_any p B room vb vs fl m sp n l (num g 2 2 : Int) w6 hM (by omega) h3)
      clear hH
      by_cases c3 : fileOf l (num g 2 2 : Int) = ⟨#[]⟩
      · rw [if_pos c3] at HA
        rw [HA.out]
        rw [foV_u c3] at HO
        simp only [fileV] at HO
        clear HA c3 hH1
        generalize decide (btn g 1 = 1) = P at *
        generalize num g 2 2 = N2 at *
        generalize num g 4 4 = N4 at *
        generalize num g 8 2 = N8 at *
        generalize num g 10 4 = N10 at *
        go_enter Try.func24, Try.ntmps24
        go_wp2_with fail
        refine Calls.mono HLK.out ?_
        rintro e w1 ⟨rfl, b1⟩
        go_wp2_with fail
        refine Calls.mono (HH.out _) ?_
        rintro e w6 ⟨rfl, b6⟩
        have hq6 := hRow_lay w6 false 0 0 0 0
        have hB6 := hid (b1.trans (b6.mono b1.size))
        have H1 := hid h1
        clear h1 h3 h5 h4 HLK HH hL HFZ
        go_wp2_with (first
          | (refine wpList_store_rowIs rfl 82 (.tmp 8) (.tmp 25) rfl w6.heap.size rfl 82 5 (hRow false 0 0 0 0) (hRow P (N2 : Int) (N4 : Int) (N8 : Int) (N10 : Int)) hq6 rfl sizeHead (fun i _ => hRow_one _ _ _ _ _ i) ?_
             intro w7 q7 b7 o7 s7
             have hHD := hid (HdAt.of_row q7)
             have hB7 := hid ((hB6.out.alloc hB6.out.size (.cells #[.bool false, .int .i64 0, .int .i64 0, .int .i64 0, .int .i64 0] 82)).trans (b7.mono hB6.out.size))
             have hM7 := hid (H1.out.below hB7.out)
             have c1 := hHD.out.c1
             have lh := hHD.out.lt
             have nne := World.new_ne w7 ⟨w6.heap.size, 1, none⟩ c1
             have lne : w6.heap.size ≠ w7.heap.size := by omega
             have c1a := hid (fun o => (World.cell?_of_block (a := ⟨w6.heap.size, 1, none⟩) (Below.heap_alloc w7 o _ lh)).trans c1)
             clear q7 b7 o7 s7))
        go_region_held3 (fun w' => w'.cell? ⟨w6.heap.size, 1, none⟩ = some (.int .i64 (N2 : Int)))
          (first | go_keep | assumption | (refine far4 _ _ _ _ ?_ ?_ <;> assumption))
          (first | (go_at_call 40; refine (HO.out _ (by first | exact ⟨hM7.out.row, hM7.out.lo, hM7.out.bd, hM7.out.sh⟩ | exact ⟨(hM7.out.alloc _).row, hM7.out.lo, (hM7.out.alloc _).bd, (hM7.out.alloc _).sh⟩)).mono ?_; rintro e w8 ⟨rfl, b8⟩; have j1 : w8.cell? ⟨w6.heap.size, 1, none⟩ = some (.int .i64 (N2 : Int)) := (b8.cell (p := ⟨w6.heap.size, 1, none⟩) (Nat.lt_of_lt_of_le lh (by simp))).trans (by first | exact c1 | exact c1a.out _); (first | (have zr := fnew_row b8; have z0 := (FlAt.of_row zr).c0; have z1 := (FlAt.of_row zr).c1; have z2 := (FlAt.of_row zr).c2; have z3 := (FlAt.of_row zr).c3; have f0 := World.rowIs.frozen zr 0; have f1 := World.rowIs.frozen zr 1; have f2 := World.rowIs.frozen zr 2; have f3 := World.rowIs.frozen zr 3) | skip)))
        · have hB8 := hid ((hB7.out.trans ((bel_dr b8).mono hB7.out.size)).alloc (by have := b8.size; have := hB7.out.size; simp at *; omega) (.cells #[.int .i64 0, .string ⟨#[]⟩, .string ⟨#[]⟩, .int .i64 0] 48))
          go_wp2
          go_ret2
          exact ⟨rfl, hB8.out⟩
        · have hB8 := hid (set4_below (.int .i64 0) (.string ⟨#[]⟩) (.string ⟨#[]⟩) (.int .i64 0) ((hB7.out.alloc hB7.out.size (.cells #[.int .i64 0, .string ⟨#[]⟩, .string ⟨#[]⟩, .int .i64 0] 48)).trans ((bel_dr b8).mono (by have := hB7.out.size; simp; omega))) hB7.out.size)
          go_wp2
          go_ret2
          exact ⟨rfl, hB8.out⟩
      · have hbd := hL.bound _ c3
        have hok := hbd.1
        have HI := hid (show num g 2 2 = num (fileOf l (num g 2 2 : Int)) 3 2 from by have := hbd.2; omega)
        rw [if_neg c3] at HA
        rw [HA.out]
        rw [foV_b c3] at HO
        simp only [fileV] at HO
        obtain ⟨hcz, hf13⟩ := pOk_con hok
        have htz : (pAns (fileOf l (num g 2 2 : Int))).2.1.size ≤ maxLen := (par_cases (fileOf l (num g 2 2 : Int))).elim (fun q => by rw [pAns_yes hok] at q; simp at q) (fun q => q.2.2.2.1)
        have hnm := num_lt (fileOf l (num g 2 2 : Int)) 3 2
        have hT := pOk_tab hok
        obtain ⟨g1, g2, g3, g4⟩ : 14 ≤ g.size ∧ btn g 0 = 70 ∧ btn g 1 ≤ 1 ∧ num g 8 2 ≤ 500 := of_decide_eq_true hH1
        have HOA := hid (dcAns_open (f := fileOf l (num g 2 2 : Int)) (g := g) (by omega) hok hH1 HI.out)
        have HOP := hid (fun i i2 b1 b2 w hF hH => open_any (pAns (fileOf l (num g 2 2 : Int))).2.1 (pAns (fileOf l (num g 2 2 : Int))).2.2.1 g i i2 (decide (btn g 1 = 1)) (num g 8 2) (num g 4 4) (wSum ((fileOf l (num g 2 2 : Int)).extract 0 (pE (fileOf l (num g 2 2 : Int))))) (num g 10 4) b1 b2 w hF hH htz hT hcz (by omega) g1 g4 l10)
        rw [HOA.out]
        have hws := wSum_lt ((fileOf l (num g 2 2 : Int)).extract 0 (pE (fileOf l (num g 2 2 : Int))))
        clear HOA HI hbd htz hcz hf13 hT g1 g2 g3 hok
        generalize opAns (pAns (fileOf l (num g 2 2 : Int))).2.1 (pAns (fileOf l (num g 2 2 : Int))).2.2.1 g (decide (btn g 1 = 1)) (num g 8 2) (num g 4 4) (wSum ((fileOf l (num g 2 2 : Int)).extract 0 (pE (fileOf l (num g 2 2 : Int))))) (num g 10 4) = RES at *
        generalize (pAns (fileOf l (num g 2 2 : Int))).2.1 = T at *
        generalize (pAns (fileOf l (num g 2 2 : Int))).2.2.1 = C at *
        generalize wSum ((fileOf l (num g 2 2 : Int)).extract 0 (pE (fileOf l (num g 2 2 : Int)))) = S at *
        generalize num (fileOf l (num g 2 2 : Int)) 3 2 = N at *
        clear HA c3 hH1
        generalize decide (btn g 1 = 1) = P at *
        generalize num g 2 2 = N2 at *
        generalize num g 4 4 = N4 at *
        generalize num g 8 2 = N8 at *
        generalize num g 10 4 = N10 at *
        go_enter Try.func24, Try.ntmps24
        go_wp2_with fail
        refine Calls.mono HLK.out ?_
        rintro e w1 ⟨rfl, b1⟩
        go_wp2_with fail
        refine Calls.mono (HH.out _) ?_
        rintro e w6 ⟨rfl, b6⟩
        have hq6 := hRow_lay w6 false 0 0 0 0
        have hB6 := hid (b1.trans (b6.mono b1.size))
        have H1 := hid h1
        clear h1 h3 h5 h4 HLK HH hL HFZ
        go_wp2_with (first
          | (refine wpList_store_rowIs rfl 82 (.tmp 8) (.tmp 25) rfl w6.heap.size rfl 82 5 (hRow false 0 0 0 0) (hRow P (N2 : Int) (N4 : Int) (N8 : Int) (N10 : Int)) hq6 rfl sizeHead (fun i _ => hRow_one _ _ _ _ _ i) ?_
             intro w7 q7 b7 o7 s7
             have hHD := hid (HdAt.of_row q7)
             have hB7 := hid ((hB6.out.alloc hB6.out.size (.cells #[.bool false, .int .i64 0, .int .i64 0, .int .i64 0, .int .i64 0] 82)).trans (b7.mono hB6.out.size))
             have hM7 := hid (H1.out.below hB7.out)
             have c1 := hHD.out.c1
             have lh := hHD.out.lt
             have nne := World.new_ne w7 ⟨w6.heap.size, 1, none⟩ c1
             have lne : w6.heap.size ≠ w7.heap.size := by omega
             have c1a := hid (fun o => (World.cell?_of_block (a := ⟨w6.heap.size, 1, none⟩) (Below.heap_alloc w7 o _ lh)).trans c1)
             clear q7 b7 o7 s7))
        go_region_held3 (fun w' => w'.cell? ⟨w6.heap.size, 1, none⟩ = some (.int .i64 (N2 : Int)))
          (first | go_keep | assumption | (refine far4 _ _ _ _ ?_ ?_ <;> assumption))
          (first | (go_at_call 40; refine (HO.out _ (by first | exact ⟨hM7.out.row, hM7.out.lo, hM7.out.bd, hM7.out.sh⟩ | exact ⟨(hM7.out.alloc _).row, hM7.out.lo, (hM7.out.alloc _).bd, (hM7.out.alloc _).sh⟩)).mono ?_; rintro e w8 ⟨rfl, b8⟩; have j1 : w8.cell? ⟨w6.heap.size, 1, none⟩ = some (.int .i64 (N2 : Int)) := (b8.cell (p := ⟨w6.heap.size, 1, none⟩) (Nat.lt_of_lt_of_le lh (by simp))).trans (by first | exact c1 | exact c1a.out _); (first | (have zr := fnew_row b8; have z0 := (FlAt.of_row zr).c0; have z1 := (FlAt.of_row zr).c1; have z2 := (FlAt.of_row zr).c2; have z3 := (FlAt.of_row zr).c3; have f0 := World.rowIs.frozen zr 0; have f1 := World.rowIs.frozen zr 1; have f2 := World.rowIs.frozen zr 2; have f3 := World.rowIs.frozen zr 3) | skip)))
        · have hB8 := hid ((hB7.out.trans ((bel_dr b8).mono hB7.out.size)).alloc (by have := b8.size; have := hB7.out.size; simp at *; omega) (.cells #[.int .i64 (N : Int), .string T, .string C, .int .i64 (S : Int)] 48))
          have hF8 := hid (FlAt.of_row (fRow_lay w8 (N : Int) T C (S : Int)))
          have hH8 := hid (hHD.out.kept (w' := w8.alloc (.cells #[.int .i64 (N : Int), .string T, .string C, .int .i64 (S : Int)] 48)) (by have := b8.size; simp at *; omega) (by rw [Below.heap_alloc _ _ _ (by have := b8.size; simp at *; omega)]; exact (bel_dr b8).block _ lh))
          go_wp2_with fail
          refine Calls.mono (HOP.out _ _ _ _ _ hF8.out hH8.out) ?_
          rintro e w9 ⟨rfl, b9⟩
          go_wp2
          go_ret2
          exact ⟨rfl, hB8.out.trans (b9.mono hB8.out.size)⟩
        · have hB8 := hid (set4_below (.int .i64 (N : Int)) (.string T) (.string C) (.int .i64 (S : Int)) ((hB7.out.alloc hB7.out.size (.cells #[.int .i64 0, .string ⟨#[]⟩, .string ⟨#[]⟩, .int .i64 0] 48)).trans ((bel_dr b8).mono (by have := hB7.out.size; simp; omega))) hB7.out.size)
          have hF8 := hid (FlAt.of_row (set4_row (N : Int) T C (S : Int) (fnew_row b8)))
          have hH8 := hid (hHD.out.kept (w' := ((((w8.setCell ⟨w7.heap.size, 0, none⟩ (.int .i64 (N : Int))).setCell ⟨w7.heap.size, 1, none⟩ (.string T)).setCell ⟨w7.heap.size, 2, none⟩ (.string C)).setCell ⟨w7.heap.size, 3, none⟩ (.int .i64 (S : Int)))) (by have := b8.size; simp at *; omega) (by rw [set4_block _ _ _ _ lne, (bel_dr b8).block _ (by simp; omega), Below.heap_alloc _ _ _ lh]))
          go_wp2_with fail
          refine Calls.mono (HOP.out _ _ _ _ _ hF8.out hH8.out) ?_
          rintro e w9 ⟨rfl, b9⟩
          go_wp2
          go_ret2
          exact ⟨rfl, hB8.out.trans (b9.mono hB8.out.size)⟩
end Go.Proofs.Ytnconbpneimjiaa

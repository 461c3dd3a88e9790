/-
  P13 to P15: one call of a store and of the document's, as the law All makes it.
-/
import Derived.Test.YtnconbpneimjiaaGreatStoProg
import Derived.Test.YtnconbpneimjiaaGreatStoAbs
namespace Go.Proofs.YtnconbpneimjiaaGreat
open Go.RowKit Go.PlainAid

/-- A call's arguments may be. -/
structure OpOk (a b c d : Int) (s t : ByteArray) : Prop where
  a : (Lit.int .i64 a).wf = true
  b : (Lit.int .i64 b).wf = true
  c : (Lit.int .i64 c).wf = true
  d : (Lit.int .i64 d).wf = true
  s : s.size ≤ maxLen
  t : t.size ≤ maxLen
/-- A call, as a value. -/
def opV (kd on a b c d : Int) (s t : ByteArray) : Value := .agg #[.int .i64 kd, .int .i64 on, .int .i64 a, .int .i64 b, .int .i64 c, .int .i64 d, .string s, .string t]
theorem PS.chg {w w' : World} {p : Nat} {F G : Nat → Prop} {room : Int} {l : List Ev} (h : PS w p F room l) (hc : ChgF G w w') (hd : ∀ k, F k → ¬ G k) : PS w' p F room l :=
  h.kept hc.size (fun k hk => hc.block k (h.lt k hk) (hd k hk))
/-- A store of the program and one of the document, of one log, apart. -/
structure Twin (w : World) (x r : Nat) (FX FR : Nat → Prop) (room : Int) (l : List Ev) : Prop where
  px : PS w x FX room l
  rr : RS w r FR room l
  ap : ∀ k, FX k → ¬ FR k
  ok : LogOk l
theorem Twin.lt {w : World} {x r : Nat} {FX FR : Nat → Prop} {room : Int} {l : List Ev} (h : Twin w x r FX FR room l) (k : Nat) (hk : FX k ∨ FR k) : k < w.heap.size := hk.elim (h.px.lt k) (h.rr.lt k)
theorem Twin.chg {w w' : World} {x r : Nat} {FX FR G : Nat → Prop} {room : Int} {l : List Ev} (h : Twin w x r FX FR room l) (hc : ChgF G w w') (hd : ∀ k, FX k ∨ FR k → ¬ G k) : Twin w' x r FX FR room l :=
  ⟨h.px.chg hc (fun k q => hd k (.inl q)), h.rr.chg hc (fun k q => hd k (.inr q)), h.ap, h.ok⟩
theorem Twin.below {w w' : World} {x r : Nat} {FX FR : Nat → Prop} {room : Int} {l : List Ev} (h : Twin w x r FX FR room l) (hb : Below w.heap.size w w') : Twin w' x r FX FR room l :=
  h.chg (G := fun _ => False) (ChgF.ofBelow hb) (fun _ _ q => q)
/-- What a call of a twin leaves. -/
def TwinPost (w : World) (x r : Nat) (FX FR : Nat → Prop) (room : Int) (l : List Ev) (w' : World) : Prop :=
  ∃ FX' FR' l', Twin w' x r FX' FR' room l' ∧ l'.length ≤ l.length + 1 ∧ ChgF (fun k => FX k ∨ FR k) w w' ∧ GrowF w (fun k => FX k ∨ FR k) (fun k => FX' k ∨ FR' k)
theorem TwinPost.ofBelow {w w' : World} {x r : Nat} {FX FR : Nat → Prop} {room : Int} {l : List Ev} (h : Twin w x r FX FR room l) (hb : Below w.heap.size w w') : TwinPost w x r FX FR room l w' :=
  ⟨FX, FR, l, h.below hb, by omega, ChgF.ofBelow hb, GrowF.refl _ _⟩
theorem TwinPost.mk {w w0 w1 w2 : World} {x r : Nat} {FX FR FX' FR' : Nat → Prop} {room : Int} {l l' : List Ev} (h : Twin w x r FX FR room l) (hb : Below w.heap.size w w0)
    (p1 : PS w1 x FX' room l') (c1 : ChgF FX w0 w1) (g1 : GrowF w0 FX FX') (r2 : RS w2 r FR' room l') (c2 : ChgF FR w1 w2) (g2 : GrowF w1 FR FR') (hl : LogOk l') (hn : l'.length ≤ l.length + 1) : TwinPost w x r FX FR room l w2 := by
  have hs0 := hb.size
  have hs1 := c1.size
  refine ⟨FX', FR', l', ⟨p1.chg c2 (fun k q q2 => ?_), r2, fun k q q2 => ?_, hl⟩, hn, ?_, fun k q => ?_⟩
  · rcases g1 k q with e | e
    · exact h.ap k e q2
    · have := h.rr.lt k q2; omega
  · rcases g2 k q2 with e | e
    · rcases g1 k q with e2 | e2
      · exact h.ap k e2 e
      · have := h.rr.lt k e; omega
    · have := p1.lt k q; omega
  · have a1 : ChgF (fun k => FX k ∨ FR k) w w0 := ChgF.ofBelow hb
    have a2 := a1.trans (c1.mono (fun k q => Or.inl q) (F' := fun k => FX k ∨ FR k)) (fun k _ q => q)
    exact a2.trans (c2.mono (fun k q => Or.inr q) (F' := fun k => FX k ∨ FR k)) (fun k _ q => q)
  · rcases q with q | q
    · rcases g1 k q with e | e
      · exact .inl (.inl e)
      · exact .inr (by omega)
    · rcases g2 k q with e | e
      · exact .inl (.inr e)
      · exact .inr (by omega)
set_option maxRecDepth 100000 in
set_option maxHeartbeats 800000 in
theorem stored_12 (on a b c d : Int) (s t : ByteArray) (x r : Nat) (FX FR : Nat → Prop) (room : Int) (l : List Ev) (w : World) (h : Twin w x r FX FR room l) (hl : l.length < 1790000000000) (ho : OpOk a b c d s t) :
    Calls Tryz.prog 8 #[.agg #[.pointer (some ⟨x, 0, none⟩), .pointer (some ⟨r, 0, none⟩)], opV 12 on a b c d s t] w fun e w' => e = .returned (.bool true) ∧ TwinPost w x r FX FR room l w' := by
  obtain ⟨w0, hw0⟩ : ∃ w0, ((w.alloc (.cells #[.pointer (some ⟨x, 0, none⟩), .pointer (some ⟨r, 0, none⟩)] 35)).alloc (.cells #[.int .i64 12, .int .i64 on, .int .i64 a, .int .i64 b, .int .i64 c, .int .i64 d, .string s, .string t] 25)) = w0 := ⟨_, rfl⟩
  have hb0 : Below w.heap.size w w0 := by rw [← hw0]; exact ((Below.refl _ _).alloc (Nat.le_refl _) _).alloc (by simp) _
  have hz0 : w0.heap.size = w.heap.size + 2 := by rw [← hw0]; simp
  have h0 := h.below hb0
  have HOK := hid h.ok
  have K1 := hid (pg_register x FX room l s w0 h0.px (KN.of_len (by omega)) h.ok ho.s)
  have K2 := hid (fun w (h : RS w r FR room l) => rs_register r FR room l s w h (by omega) ho.s)
  have hok := hid (LogOk.rg h.ok room s)
  have hln := hid (len_rg l room s)
  have t0 : w0.cell? ⟨w.heap.size, 0, none⟩ = some (.pointer (some ⟨x, 0, none⟩)) := by rw [← hw0]; simp
  have o0 : w0.cell? ⟨w.heap.size + 1, 0, none⟩ = some (.int .i64 12) := by rw [← hw0]; simp
  have t1 : w0.cell? ⟨w.heap.size, 1, none⟩ = some (.pointer (some ⟨r, 0, none⟩)) := by rw [← hw0]; simp
  have o6 : w0.cell? ⟨w.heap.size + 1, 6, none⟩ = some (.string s) := by rw [← hw0]; simp
  have n0 : ¬ FX w.heap.size := fun q => by have := h.px.lt _ q; omega
  have n1 : ¬ FX (w.heap.size + 1) := fun q => by have := h.px.lt _ q; omega
  generalize rgAns l room s = A at *
  obtain ⟨A1, A2, A3⟩ := A
  simp only at hok hln K1 K2
  unfold opV
  go_enter Tryz.func8, Tryz.ntmps8
  go_wp2_with fail
  refine Calls.mono K1.out ?_
  rintro e w1 ⟨rfl, FX', p1, c1, g1⟩
  have u1 : w1.cell? ⟨w.heap.size, 1, none⟩ = some (.pointer (some ⟨r, 0, none⟩)) := (World.cell?_of_block (c1.block w.heap.size (by omega) n0)).trans t1
  have v6 : w1.cell? ⟨w.heap.size + 1, 6, none⟩ = some (.string s) := (World.cell?_of_block (c1.block (w.heap.size + 1) (by omega) n1)).trans o6
  have hr1 := hid (h0.rr.chg c1 (fun k q q2 => h.ap k q2 q))
  go_wp2_with fail
  refine Calls.mono (K2.out _ hr1.out) ?_
  rintro e w2 ⟨rfl, FR', r2, c2, g2⟩
  go_wp2
  go_ret
  exact ⟨by simp, TwinPost.mk h hb0 p1 c1 g1 r2 c2 g2 hok.out hln.out⟩
set_option maxRecDepth 100000 in
set_option maxHeartbeats 800000 in
theorem stored_13 (on a b c d : Int) (s t : ByteArray) (x r : Nat) (FX FR : Nat → Prop) (room : Int) (l : List Ev) (w : World) (h : Twin w x r FX FR room l) (hl : l.length < 1790000000000) (_ho : OpOk a b c d s t) :
    Calls Tryz.prog 8 #[.agg #[.pointer (some ⟨x, 0, none⟩), .pointer (some ⟨r, 0, none⟩)], opV 13 on a b c d s t] w fun e w' => e = .returned (.bool true) ∧ TwinPost w x r FX FR room l w' := by
  obtain ⟨w0, hw0⟩ : ∃ w0, ((w.alloc (.cells #[.pointer (some ⟨x, 0, none⟩), .pointer (some ⟨r, 0, none⟩)] 35)).alloc (.cells #[.int .i64 13, .int .i64 on, .int .i64 a, .int .i64 b, .int .i64 c, .int .i64 d, .string s, .string t] 25)) = w0 := ⟨_, rfl⟩
  have hb0 : Below w.heap.size w w0 := by rw [← hw0]; exact ((Below.refl _ _).alloc (Nat.le_refl _) _).alloc (by simp) _
  have hz0 : w0.heap.size = w.heap.size + 2 := by rw [← hw0]; simp
  have h0 := h.below hb0
  have HOK := hid h.ok
  have K1 := hid (pg_remove x FX room l a w0 h0.px (KN.of_len (by omega)) h.ok)
  have K2 := hid (fun w (h : RS w r FR room l) => rs_remove r FR room l a w h (by omega))
  have hok := hid (LogOk.rm h.ok a)
  have hln := hid (len_rm l a)
  have t0 : w0.cell? ⟨w.heap.size, 0, none⟩ = some (.pointer (some ⟨x, 0, none⟩)) := by rw [← hw0]; simp
  have o0 : w0.cell? ⟨w.heap.size + 1, 0, none⟩ = some (.int .i64 13) := by rw [← hw0]; simp
  have t1 : w0.cell? ⟨w.heap.size, 1, none⟩ = some (.pointer (some ⟨r, 0, none⟩)) := by rw [← hw0]; simp
  have o2 : w0.cell? ⟨w.heap.size + 1, 2, none⟩ = some (.int .i64 a) := by rw [← hw0]; simp
  have n0 : ¬ FX w.heap.size := fun q => by have := h.px.lt _ q; omega
  have n1 : ¬ FX (w.heap.size + 1) := fun q => by have := h.px.lt _ q; omega
  generalize rmAns l a = A at *
  obtain ⟨A1, A2⟩ := A
  simp only at hok hln K1 K2
  unfold opV
  go_enter Tryz.func8, Tryz.ntmps8
  go_wp2_with fail
  refine Calls.mono K1.out ?_
  rintro e w1 ⟨rfl, FX', p1, c1, g1⟩
  have u1 : w1.cell? ⟨w.heap.size, 1, none⟩ = some (.pointer (some ⟨r, 0, none⟩)) := (World.cell?_of_block (c1.block w.heap.size (by omega) n0)).trans t1
  have v2 : w1.cell? ⟨w.heap.size + 1, 2, none⟩ = some (.int .i64 a) := (World.cell?_of_block (c1.block (w.heap.size + 1) (by omega) n1)).trans o2
  have hr1 := hid (h0.rr.chg c1 (fun k q q2 => h.ap k q2 q))
  go_wp2_with fail
  refine Calls.mono (K2.out _ hr1.out) ?_
  rintro e w2 ⟨rfl, FR', r2, c2, g2⟩
  go_wp2
  go_ret
  exact ⟨by simp, TwinPost.mk h hb0 p1 c1 g1 r2 c2 g2 hok.out hln.out⟩
set_option maxRecDepth 100000 in
set_option maxHeartbeats 800000 in
theorem stored_14 (on a b c d : Int) (s t : ByteArray) (x r : Nat) (FX FR : Nat → Prop) (room : Int) (l : List Ev) (w : World) (h : Twin w x r FX FR room l) (hl : l.length < 1790000000000) (ho : OpOk a b c d s t) :
    Calls Tryz.prog 8 #[.agg #[.pointer (some ⟨x, 0, none⟩), .pointer (some ⟨r, 0, none⟩)], opV 14 on a b c d s t] w fun e w' => e = .returned (.bool true) ∧ TwinPost w x r FX FR room l w' := by
  obtain ⟨w0, hw0⟩ : ∃ w0, ((w.alloc (.cells #[.pointer (some ⟨x, 0, none⟩), .pointer (some ⟨r, 0, none⟩)] 35)).alloc (.cells #[.int .i64 14, .int .i64 on, .int .i64 a, .int .i64 b, .int .i64 c, .int .i64 d, .string s, .string t] 25)) = w0 := ⟨_, rfl⟩
  have hb0 : Below w.heap.size w w0 := by rw [← hw0]; exact ((Below.refl _ _).alloc (Nat.le_refl _) _).alloc (by simp) _
  have hz0 : w0.heap.size = w.heap.size + 2 := by rw [← hw0]; simp
  have h0 := h.below hb0
  have HOK := hid h.ok
  have K1 := hid (pg_put x FX room l s t a w0 h0.px (KN.of_len (by omega)) h.ok ho.s ho.t)
  have K2 := hid (fun w (h : RS w r FR room l) => rs_put r FR room l s t a w h (by omega) ho.s ho.t HOK.out)
  have hok := hid (LogOk.put h.ok s t a)
  have hln := hid (len_put l s t a)
  have t0 : w0.cell? ⟨w.heap.size, 0, none⟩ = some (.pointer (some ⟨x, 0, none⟩)) := by rw [← hw0]; simp
  have o0 : w0.cell? ⟨w.heap.size + 1, 0, none⟩ = some (.int .i64 14) := by rw [← hw0]; simp
  have t1 : w0.cell? ⟨w.heap.size, 1, none⟩ = some (.pointer (some ⟨r, 0, none⟩)) := by rw [← hw0]; simp
  have o6 : w0.cell? ⟨w.heap.size + 1, 6, none⟩ = some (.string s) := by rw [← hw0]; simp
  have o7 : w0.cell? ⟨w.heap.size + 1, 7, none⟩ = some (.string t) := by rw [← hw0]; simp
  have o2 : w0.cell? ⟨w.heap.size + 1, 2, none⟩ = some (.int .i64 a) := by rw [← hw0]; simp
  have n0 : ¬ FX w.heap.size := fun q => by have := h.px.lt _ q; omega
  have n1 : ¬ FX (w.heap.size + 1) := fun q => by have := h.px.lt _ q; omega
  generalize putAns l s t a = A at *
  obtain ⟨A1, A2, A3⟩ := A
  simp only at hok hln K1 K2
  unfold opV
  go_enter Tryz.func8, Tryz.ntmps8
  go_wp2_with fail
  refine Calls.mono K1.out ?_
  rintro e w1 ⟨rfl, FX', p1, c1, g1⟩
  have u1 : w1.cell? ⟨w.heap.size, 1, none⟩ = some (.pointer (some ⟨r, 0, none⟩)) := (World.cell?_of_block (c1.block w.heap.size (by omega) n0)).trans t1
  have v6 : w1.cell? ⟨w.heap.size + 1, 6, none⟩ = some (.string s) := (World.cell?_of_block (c1.block (w.heap.size + 1) (by omega) n1)).trans o6
  have v7 : w1.cell? ⟨w.heap.size + 1, 7, none⟩ = some (.string t) := (World.cell?_of_block (c1.block (w.heap.size + 1) (by omega) n1)).trans o7
  have v2 : w1.cell? ⟨w.heap.size + 1, 2, none⟩ = some (.int .i64 a) := (World.cell?_of_block (c1.block (w.heap.size + 1) (by omega) n1)).trans o2
  have hr1 := hid (h0.rr.chg c1 (fun k q q2 => h.ap k q2 q))
  go_wp2_with fail
  refine Calls.mono (K2.out _ hr1.out) ?_
  rintro e w2 ⟨rfl, FR', r2, c2, g2⟩
  go_wp2
  go_ret
  exact ⟨by simp, TwinPost.mk h hb0 p1 c1 g1 r2 c2 g2 hok.out hln.out⟩
set_option maxRecDepth 100000 in
set_option maxHeartbeats 800000 in
theorem stored_15 (on a b c d : Int) (s t : ByteArray) (x r : Nat) (FX FR : Nat → Prop) (room : Int) (l : List Ev) (w : World) (h : Twin w x r FX FR room l) (hl : l.length < 1790000000000) (ho : OpOk a b c d s t) :
    Calls Tryz.prog 8 #[.agg #[.pointer (some ⟨x, 0, none⟩), .pointer (some ⟨r, 0, none⟩)], opV 15 on a b c d s t] w fun e w' => e = .returned (.bool true) ∧ TwinPost w x r FX FR room l w' := by
  obtain ⟨w0, hw0⟩ : ∃ w0, ((w.alloc (.cells #[.pointer (some ⟨x, 0, none⟩), .pointer (some ⟨r, 0, none⟩)] 35)).alloc (.cells #[.int .i64 15, .int .i64 on, .int .i64 a, .int .i64 b, .int .i64 c, .int .i64 d, .string s, .string t] 25)) = w0 := ⟨_, rfl⟩
  have hb0 : Below w.heap.size w w0 := by rw [← hw0]; exact ((Below.refl _ _).alloc (Nat.le_refl _) _).alloc (by simp) _
  have hz0 : w0.heap.size = w.heap.size + 2 := by rw [← hw0]; simp
  have h0 := h.below hb0
  have HOK := hid h.ok
  have K1 := hid (pg_plant x FX room l s t w0 h0.px (KN.of_len (by omega)) h.ok ho.s ho.t)
  have K2 := hid (fun w (h : RS w r FR room l) => rs_plant r FR room l s t w h (by omega) ho.s ho.t)
  have hok := hid (LogOk.plant h.ok s t)
  have hln := hid (len_plant l s t)
  have t0 : w0.cell? ⟨w.heap.size, 0, none⟩ = some (.pointer (some ⟨x, 0, none⟩)) := by rw [← hw0]; simp
  have o0 : w0.cell? ⟨w.heap.size + 1, 0, none⟩ = some (.int .i64 15) := by rw [← hw0]; simp
  have t1 : w0.cell? ⟨w.heap.size, 1, none⟩ = some (.pointer (some ⟨r, 0, none⟩)) := by rw [← hw0]; simp
  have o6 : w0.cell? ⟨w.heap.size + 1, 6, none⟩ = some (.string s) := by rw [← hw0]; simp
  have o7 : w0.cell? ⟨w.heap.size + 1, 7, none⟩ = some (.string t) := by rw [← hw0]; simp
  have n0 : ¬ FX w.heap.size := fun q => by have := h.px.lt _ q; omega
  have n1 : ¬ FX (w.heap.size + 1) := fun q => by have := h.px.lt _ q; omega
  generalize plntAns l s t = A at *
  obtain ⟨A1, A2⟩ := A
  simp only at hok hln K1 K2
  unfold opV
  go_enter Tryz.func8, Tryz.ntmps8
  go_wp2_with fail
  refine Calls.mono K1.out ?_
  rintro e w1 ⟨rfl, FX', p1, c1, g1⟩
  have u1 : w1.cell? ⟨w.heap.size, 1, none⟩ = some (.pointer (some ⟨r, 0, none⟩)) := (World.cell?_of_block (c1.block w.heap.size (by omega) n0)).trans t1
  have v6 : w1.cell? ⟨w.heap.size + 1, 6, none⟩ = some (.string s) := (World.cell?_of_block (c1.block (w.heap.size + 1) (by omega) n1)).trans o6
  have v7 : w1.cell? ⟨w.heap.size + 1, 7, none⟩ = some (.string t) := (World.cell?_of_block (c1.block (w.heap.size + 1) (by omega) n1)).trans o7
  have hr1 := hid (h0.rr.chg c1 (fun k q q2 => h.ap k q2 q))
  go_wp2_with fail
  refine Calls.mono (K2.out _ hr1.out) ?_
  rintro e w2 ⟨rfl, FR', r2, c2, g2⟩
  go_wp2
  go_ret
  exact ⟨by simp, TwinPost.mk h hb0 p1 c1 g1 r2 c2 g2 hok.out hln.out⟩
set_option maxRecDepth 100000 in
set_option maxHeartbeats 800000 in
theorem stored_16 (on a b c d : Int) (s t : ByteArray) (x r : Nat) (FX FR : Nat → Prop) (room : Int) (l : List Ev) (w : World) (h : Twin w x r FX FR room l) (_hl : l.length < 1790000000000) (ho : OpOk a b c d s t) :
    Calls Tryz.prog 8 #[.agg #[.pointer (some ⟨x, 0, none⟩), .pointer (some ⟨r, 0, none⟩)], opV 16 on a b c d s t] w fun e w' => e = .returned (.bool true) ∧ TwinPost w x r FX FR room l w' := by
  obtain ⟨w0, hw0⟩ : ∃ w0, ((w.alloc (.cells #[.pointer (some ⟨x, 0, none⟩), .pointer (some ⟨r, 0, none⟩)] 35)).alloc (.cells #[.int .i64 16, .int .i64 on, .int .i64 a, .int .i64 b, .int .i64 c, .int .i64 d, .string s, .string t] 25)) = w0 := ⟨_, rfl⟩
  have hb0 : Below w.heap.size w w0 := by rw [← hw0]; exact ((Below.refl _ _).alloc (Nat.le_refl _) _).alloc (by simp) _
  have hz0 : w0.heap.size = w.heap.size + 2 := by rw [← hw0]; simp
  have h0 := h.below hb0
  have HOK := hid h.ok
  have K1 := hid (pg_get x FX room l s w0 h0.px h.ok ho.s)
  have K2 := hid (fun w (h : RS w r FR room l) => rs_get r FR room l s w h HOK.out)
  have t0 : w0.cell? ⟨w.heap.size, 0, none⟩ = some (.pointer (some ⟨x, 0, none⟩)) := by rw [← hw0]; simp
  have o0 : w0.cell? ⟨w.heap.size + 1, 0, none⟩ = some (.int .i64 16) := by rw [← hw0]; simp
  have t1 : w0.cell? ⟨w.heap.size, 1, none⟩ = some (.pointer (some ⟨r, 0, none⟩)) := by rw [← hw0]; simp
  have o6 : w0.cell? ⟨w.heap.size + 1, 6, none⟩ = some (.string s) := by rw [← hw0]; simp
  generalize getAns l s = A at *
  obtain ⟨A1, A2⟩ := A
  simp only at K1 K2
  unfold opV
  go_enter Tryz.func8, Tryz.ntmps8
  go_wp2_with fail
  refine Calls.mono K1.out ?_
  rintro e w1 ⟨rfl, b1⟩
  have u1 : w1.cell? ⟨w.heap.size, 1, none⟩ = some (.pointer (some ⟨r, 0, none⟩)) := (b1.cell (p := ⟨w.heap.size, 1, none⟩) (by simp only; omega)).trans t1
  have v6 : w1.cell? ⟨w.heap.size + 1, 6, none⟩ = some (.string s) := (b1.cell (p := ⟨w.heap.size + 1, 6, none⟩) (by simp only; omega)).trans o6
  have hr1 := hid (h0.below b1).rr
  go_wp2_with fail
  refine Calls.mono (K2.out _ hr1.out) ?_
  rintro e w2 ⟨rfl, b2⟩
  go_wp2
  go_ret
  have B1 := hb0.trans (b1.mono hb0.size)
  exact ⟨by simp, TwinPost.ofBelow h (B1.trans (b2.mono B1.size))⟩
set_option maxRecDepth 100000 in
set_option maxHeartbeats 800000 in
theorem stored_17 (on a b c d : Int) (s t : ByteArray) (x r : Nat) (FX FR : Nat → Prop) (room : Int) (l : List Ev) (w : World) (h : Twin w x r FX FR room l) (_hl : l.length < 1790000000000) (ho : OpOk a b c d s t) :
    Calls Tryz.prog 8 #[.agg #[.pointer (some ⟨x, 0, none⟩), .pointer (some ⟨r, 0, none⟩)], opV 17 on a b c d s t] w fun e w' => e = .returned (.bool true) ∧ TwinPost w x r FX FR room l w' := by
  obtain ⟨w0, hw0⟩ : ∃ w0, ((w.alloc (.cells #[.pointer (some ⟨x, 0, none⟩), .pointer (some ⟨r, 0, none⟩)] 35)).alloc (.cells #[.int .i64 17, .int .i64 on, .int .i64 a, .int .i64 b, .int .i64 c, .int .i64 d, .string s, .string t] 25)) = w0 := ⟨_, rfl⟩
  have hb0 : Below w.heap.size w w0 := by rw [← hw0]; exact ((Below.refl _ _).alloc (Nat.le_refl _) _).alloc (by simp) _
  have hz0 : w0.heap.size = w.heap.size + 2 := by rw [← hw0]; simp
  have h0 := h.below hb0
  have HOK := hid h.ok
  have K1 := hid (pg_frame x FX room l s w0 h0.px h.ok ho.s)
  have K2 := hid (fun w (h : RS w r FR room l) => rs_frame r FR room l s w h)
  have t0 : w0.cell? ⟨w.heap.size, 0, none⟩ = some (.pointer (some ⟨x, 0, none⟩)) := by rw [← hw0]; simp
  have o0 : w0.cell? ⟨w.heap.size + 1, 0, none⟩ = some (.int .i64 17) := by rw [← hw0]; simp
  have t1 : w0.cell? ⟨w.heap.size, 1, none⟩ = some (.pointer (some ⟨r, 0, none⟩)) := by rw [← hw0]; simp
  have o6 : w0.cell? ⟨w.heap.size + 1, 6, none⟩ = some (.string s) := by rw [← hw0]; simp
  generalize frAns (frmOf l s) = A at *
  obtain ⟨A1, A2⟩ := A
  simp only at K1 K2
  unfold opV
  go_enter Tryz.func8, Tryz.ntmps8
  go_wp2_with fail
  refine Calls.mono K1.out ?_
  rintro e w1 ⟨rfl, b1⟩
  have u1 : w1.cell? ⟨w.heap.size, 1, none⟩ = some (.pointer (some ⟨r, 0, none⟩)) := (b1.cell (p := ⟨w.heap.size, 1, none⟩) (by simp only; omega)).trans t1
  have v6 : w1.cell? ⟨w.heap.size + 1, 6, none⟩ = some (.string s) := (b1.cell (p := ⟨w.heap.size + 1, 6, none⟩) (by simp only; omega)).trans o6
  have hr1 := hid (h0.below b1).rr
  go_wp2_with fail
  refine Calls.mono (K2.out _ hr1.out) ?_
  rintro e w2 ⟨rfl, k2⟩
  rw [k2]
  clear k2 w2
  go_wp2
  go_ret
  exact ⟨by simp, TwinPost.ofBelow h (hb0.trans (b1.mono hb0.size))⟩
set_option maxRecDepth 100000 in
theorem stored_other (kd on a b c d : Int) (s t : ByteArray) (x r : Nat) (FX FR : Nat → Prop) (room : Int) (l : List Ev) (w : World) (h : Twin w x r FX FR room l) (hk : ¬ (12 ≤ kd ∧ kd ≤ 17)) :
    Calls Tryz.prog 8 #[.agg #[.pointer (some ⟨x, 0, none⟩), .pointer (some ⟨r, 0, none⟩)], opV kd on a b c d s t] w fun e w' => e = .returned (.bool true) ∧ TwinPost w x r FX FR room l w' := by
  have h12 : (kd == 12) = false := beq_eq_false_iff_ne.2 (by omega)
  have h13 : (kd == 13) = false := beq_eq_false_iff_ne.2 (by omega)
  have h14 : (kd == 14) = false := beq_eq_false_iff_ne.2 (by omega)
  have h15 : (kd == 15) = false := beq_eq_false_iff_ne.2 (by omega)
  have h16 : (kd == 16) = false := beq_eq_false_iff_ne.2 (by omega)
  have h17 : (kd == 17) = false := beq_eq_false_iff_ne.2 (by omega)
  clear hk
  unfold opV
  go_enter Tryz.func8, Tryz.ntmps8
  go_wp2
  go_ret
  exact ⟨rfl, TwinPost.ofBelow h (((Below.refl w.heap.size w).alloc (Nat.le_refl _) _).alloc (by simp) _)⟩
theorem stored_law (kd on a b c d : Int) (s t : ByteArray) (x r : Nat) (FX FR : Nat → Prop) (room : Int) (l : List Ev) (w : World) (h : Twin w x r FX FR room l) (hl : l.length < 1790000000000) (ho : OpOk a b c d s t) :
    Calls Tryz.prog 8 #[.agg #[.pointer (some ⟨x, 0, none⟩), .pointer (some ⟨r, 0, none⟩)], opV kd on a b c d s t] w fun e w' => e = .returned (.bool true) ∧ TwinPost w x r FX FR room l w' := by
  by_cases h0 : 12 ≤ kd ∧ kd ≤ 17
  · have hc : kd = 12 ∨ kd = 13 ∨ kd = 14 ∨ kd = 15 ∨ kd = 16 ∨ kd = 17 := by omega
    clear h0
    rcases hc with rfl | rfl | rfl | rfl | rfl | rfl
    · exact stored_12 on a b c d s t x r FX FR room l w h hl ho
    · exact stored_13 on a b c d s t x r FX FR room l w h hl ho
    · exact stored_14 on a b c d s t x r FX FR room l w h hl ho
    · exact stored_15 on a b c d s t x r FX FR room l w h hl ho
    · exact stored_16 on a b c d s t x r FX FR room l w h hl ho
    · exact stored_17 on a b c d s t x r FX FR room l w h hl ho
  · exact stored_other kd on a b c d s t x r FX FR room l w h h0
end Go.Proofs.YtnconbpneimjiaaGreat

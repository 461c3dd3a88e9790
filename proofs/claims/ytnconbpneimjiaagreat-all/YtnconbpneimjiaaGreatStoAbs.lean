/-
  P13 to P15: stores by the blocks that they own: what a call may change; the document's store so.
-/
import Derived.Test.YtnconbpneimjiaaGreatRefStoP
namespace Go.Proofs.YtnconbpneimjiaaGreat
open Go.RowKit Go.PlainAid

/-- The document's store p holds a log; F: the blocks that it owns. -/
def RS (w : World) (p : Nat) (F : Nat → Prop) (room : Int) (l : List Ev) : Prop := ∃ B v, RSt w p B v room l ∧ p < B ∧ B ≤ w.heap.size ∧ ∀ k, F k ↔ (k = p ∨ v.ownBlock = some k)
theorem RS.lt {w : World} {p : Nat} {F : Nat → Prop} {room : Int} {l : List Ev} (h : RS w p F room l) (k : Nat) (hk : F k) : k < w.heap.size := by
  obtain ⟨B, v, h1, h2, h3, h4⟩ := h
  rcases (h4 k).1 hk with rfl | q
  · exact h1.lt
  · exact (h1.log.lt k q).2
theorem RS.kept {w w' : World} {p : Nat} {F : Nat → Prop} {room : Int} {l : List Ev} (h : RS w p F room l) (hs : w.heap.size ≤ w'.heap.size) (hk : ∀ k, F k → w'.heap[k]? = w.heap[k]?) : RS w' p F room l := by
  obtain ⟨B, v, h1, h2, h3, h4⟩ := h
  refine ⟨B, v, ⟨World.rowIs.of_block h1.row (hk p ((h4 p).2 (.inl rfl))), h1.log.1, ?_⟩, h2, by omega, h4⟩
  rcases h1.log.2 with hn | ⟨g, cap, cur, rfl, hb, hg, r⟩
  · exact .inl hn
  · exact .inr ⟨g, cap, cur, rfl, hb, by rw [hk g ((h4 g).2 (.inr rfl))]; exact hg, r⟩
/-- A store behind a call that changes no block of it. -/
theorem RS.chg {w w' : World} {p : Nat} {F G : Nat → Prop} {room : Int} {l : List Ev} (h : RS w p F room l) (hc : ChgF G w w') (hd : ∀ k, F k → ¬ G k) : RS w' p F room l :=
  h.kept hc.size (fun k hk => hc.block k (h.lt k hk) (hd k hk))
theorem chg_to {w w' : World} {p B : Nat} {v v' : Value} {F : Nat → Prop} {room : Int} {l : List Ev} (hB : p < B) (hb : B ≤ w.heap.size) (hF : ∀ k, F k ↔ (k = p ∨ v.ownBlock = some k)) (h : RSt w' p B v' room l) (hc : Chg p v w w') (hl : Lies w v v') : ∃ F', RS w' p F' room l ∧ ChgF F w w' ∧ GrowF w F F' := by
  refine ⟨fun k => k = p ∨ v'.ownBlock = some k, ⟨B, v', h, hB, Nat.le_trans hb hc.size, fun k => Iff.rfl⟩, ⟨hc.os, hc.tape, hc.output, hc.size, fun k h1 h2 => hc.block k h1 (fun q => h2 ((hF k).2 (.inl q))) (fun q => h2 ((hF k).2 (.inr q.symm)))⟩, fun k hk => ?_⟩
  rcases hk with rfl | q
  · exact .inl ((hF k).2 (.inl rfl))
  · rcases hl with e | ⟨g, e1, e2⟩
    · exact .inl ((hF k).2 (.inr (by rw [← e]; exact q)))
    · rw [e1] at q
      simp only [Option.some.injEq] at q
      exact .inr (by omega)
theorem rs_remove (p : Nat) (F : Nat → Prop) (room : Int) (l : List Ev) (id : Int) (w : World) (h : RS w p F room l) (hl : l.length < 2900000000000) :
    Calls Tryz.prog 24 #[.pointer (some ⟨p, 0, none⟩), .int .i64 id] w fun e w' => e = .returned (.int .i64 (rmAns l id).1) ∧ ∃ F', RS w' p F' room (rmAns l id).2 ∧ ChgF F w w' ∧ GrowF w F F' := by
  obtain ⟨B, v, h1, h2, h3, h4⟩ := h
  refine Calls.mono (stoRemove_any p B v room l id w h1 h2 h3 hl) ?_
  rintro e w' ⟨rfl, v', r1, r2, r3⟩
  exact ⟨rfl, chg_to h2 h3 h4 r1 r2 r3⟩
theorem rs_register (p : Nat) (F : Nat → Prop) (room : Int) (l : List Ev) (f : ByteArray) (w : World) (h : RS w p F room l) (hl : l.length < 2900000000000) (hf : f.size ≤ maxLen) :
    Calls Tryz.prog 22 #[.pointer (some ⟨p, 0, none⟩), .string f] w fun e w' => e = .returned (.tuple #[.int .i64 (rgAns l room f).1, .int .i64 (rgAns l room f).2.1]) ∧ ∃ F', RS w' p F' room (rgAns l room f).2.2 ∧ ChgF F w w' ∧ GrowF w F F' := by
  obtain ⟨B, v, h1, h2, h3, h4⟩ := h
  refine Calls.mono (stoRegister_any p B v room l f w h1 h2 h3 hl hf) ?_
  rintro e w' ⟨rfl, v', r1, r2, r3⟩
  exact ⟨rfl, chg_to h2 h3 h4 r1 r2 r3⟩
theorem rs_plant (p : Nat) (F : Nat → Prop) (room : Int) (l : List Ev) (ky fr : ByteArray) (w : World) (h : RS w p F room l) (hl : l.length < 2900000000000) (hk : ky.size ≤ maxLen) (hf : fr.size ≤ maxLen) :
    Calls Tryz.prog 28 #[.pointer (some ⟨p, 0, none⟩), .string ky, .string fr] w fun e w' => e = .returned (.int .i64 (plntAns l ky fr).1) ∧ ∃ F', RS w' p F' room (plntAns l ky fr).2 ∧ ChgF F w w' ∧ GrowF w F F' := by
  obtain ⟨B, v, h1, h2, h3, h4⟩ := h
  refine Calls.mono (stoPlant_any p B v room l ky fr w h1 h2 h3 hl hk hf) ?_
  rintro e w' ⟨rfl, v', r1, r2, r3⟩
  exact ⟨rfl, chg_to h2 h3 h4 r1 r2 r3⟩
theorem rs_put (p : Nat) (F : Nat → Prop) (room : Int) (l : List Ev) (ky r : ByteArray) (id : Int) (w : World) (h : RS w p F room l) (hl : l.length < 2900000000000) (hk : ky.size ≤ maxLen) (hr : r.size ≤ maxLen) (hL : LogOk l) :
    Calls Tryz.prog 26 #[.pointer (some ⟨p, 0, none⟩), .string ky, .string r, .int .i64 id] w fun e w' => e = .returned (.tuple #[.int .i64 (putAns l ky r id).1, .int .i64 (putAns l ky r id).2.1]) ∧ ∃ F', RS w' p F' room (putAns l ky r id).2.2 ∧ ChgF F w w' ∧ GrowF w F F' := by
  obtain ⟨B, v, h1, h2, h3, h4⟩ := h
  refine Calls.mono (stoPut_any p B v room l ky r id w h1 h2 h3 hl hk hr (by have := hL.file id; unfold maxLen; omega)) ?_
  rintro e w' ⟨rfl, v', r1, r2, r3⟩
  exact ⟨rfl, chg_to h2 h3 h4 r1 r2 r3⟩
theorem rs_get (p : Nat) (F : Nat → Prop) (room : Int) (l : List Ev) (ky : ByteArray) (w : World) (h : RS w p F room l) (hL : LogOk l) :
    Calls Tryz.prog 30 #[.pointer (some ⟨p, 0, none⟩), .string ky] w fun e w' => e = .returned (.tuple #[.string (getAns l ky).1, .int .i64 (getAns l ky).2]) ∧ Below w.heap.size w w' := by
  obtain ⟨B, v, h1, h2, h3, h4⟩ := h
  exact stoGet_any p B v room l ky w h1 (fun id => by have := hL.file id; unfold maxLen; omega) (fun fr hq => by have := hL.frm ky fr hq; unfold maxLen; omega)
theorem rs_frame (p : Nat) (F : Nat → Prop) (room : Int) (l : List Ev) (ky : ByteArray) (w : World) (h : RS w p F room l) :
    Calls Tryz.prog 32 #[.pointer (some ⟨p, 0, none⟩), .string ky] w fun e w' => e = .returned (.tuple #[.string (frAns (frmOf l ky)).1, .int .i64 (frAns (frmOf l ky)).2]) ∧ w' = w := by
  obtain ⟨B, v, h1, h2, h3, h4⟩ := h
  exact stoFrame_any p B v room l ky w h1
theorem rs_new (room : Int) (w : World) (h : ¬ (room < 1 ∨ 8 < room)) :
    Calls Tryz.prog 5 #[.int .i64 room] w fun e w' => ∃ p F, e = .returned (.tuple #[.pointer (some ⟨p, 0, none⟩), .int .i64 0]) ∧ RS w' p F room [] ∧ (∀ k, F k → w.heap.size ≤ k) ∧ Below w.heap.size w w' := by
  refine Calls.mono (stoNew_ok room w h) ?_
  rintro e w' ⟨rfl, r1, r2, r3⟩
  refine ⟨w.heap.size, fun k => k = w.heap.size, rfl, ⟨w.heap.size + 1, .slice none 0 0, r1, by omega, by omega, fun k => ?_⟩, fun k hk => by omega, r2⟩
  simp [Value.ownBlock]
end Go.Proofs.YtnconbpneimjiaaGreat

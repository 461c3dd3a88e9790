/-
  P13 to P15: the walks of Shelf.Look, Bindings.Of.
-/
import Derived.Test.YtnconbpneimjiaaStoFind
namespace Go.Proofs.Ytnconbpneimjiaa
open Go.RowKit Go.PlainAid

/-- What Look answers. -/
def lkV (o : Option ByteArray) : Value :=
  match o with
  | none => .tuple #[.string ⟨#[]⟩, .bool false]
  | some t => .tuple #[.string t, .bool true]
theorem lkV_some {o : Option ByteArray} {t : ByteArray} (h : o = some t) : Ending.returned (.tuple #[.string t, .bool true]) = .returned (lkV o) := by rw [h]; rfl
theorem lkV_none {o : Option ByteArray} (h : o = none) : Ending.returned (.tuple #[.string ⟨#[]⟩, .bool false]) = .returned (lkV o) := by rw [h]; rfl
set_option maxRecDepth 100000 in
set_option maxHeartbeats 1600000 in
theorem look_any (p B : Nat) (room : Int) (vb vs : Value) (fl : Nat → ByteArray) (m : Nat) (sp : Nat → Spt) (n : Nat) (l : List Ev) (k : ByteArray) (w : World) (h : PMm w p B room vb vs fl m sp n) (hS : ShL l sp n) (hk : k.size ≤ maxLen) :
    Calls Try.prog 38 #[.pointer (some ⟨p, 2, none⟩), .string k] w fun e w' => e = .returned (lkV (frmOf l k)) ∧ Below w.heap.size w w' := by
  have HF := hid (sfind_any p B room vb vs fl m sp n k w h hS.ord hk)
  have hp := h.lt
  have hn := own_max h.sh
  unfold maxLen at hn
  go_enter Try.func38, Try.ntmps38
  go_wp2_with fail
  refine Calls.mono HF.out ?_
  rintro e w1 ⟨⟨f, a, d, rfl, hF⟩, b1⟩
  have hq := eRow_new w1
  have hM1 := h.below b1
  have hB := b1.alloc b1.size (.cells #[.bool false, .int .i64 0, .int .i64 0] 105)
  unfold endV
  cases f
  · have HR := hid (hS.no k (hF.no rfl).1)
    clear hF hM1
    go_wp2_with (first
      | (refine wpList_store_rowIs rfl 105 (.tmp 6) (.tmp 9) rfl w1.heap.size rfl 105 3 (eRow false 0 0) (eRow false a d) hq rfl sizeEnd (fun i _ => eRow_one _ _ _ i) ?_
         intro w5 q5 b5 o5 s5
         have c0 : w5.cell? ⟨w1.heap.size, 0, none⟩ = some (.bool false) := World.rowIs.cell q5 (i := 0) (by omega)))
    go_ret2
    exact ⟨lkV_none HR.out, hB.trans (b5.mono b1.size)⟩
  · obtain ⟨ha, hka⟩ := hF.yes rfl
    have HR := hid (show frmOf l k = some (sp a).tx from by rw [← hka]; exact hS.has a ha)
    have ha' : (a : Int) < (n : Int) := by omega
    clear hF hka
    go_wp2_with (first
      | (refine wpList_store_rowIs rfl 105 (.tmp 6) (.tmp 9) rfl w1.heap.size rfl 105 3 (eRow false 0 0) (eRow true a d) hq rfl sizeEnd (fun i _ => eRow_one _ _ _ i) ?_
         intro w5 q5 b5 o5 s5
         have c0 : w5.cell? ⟨w1.heap.size, 0, none⟩ = some (.bool true) := World.rowIs.cell q5 (i := 0) (by omega)
         have c1 : w5.cell? ⟨w1.heap.size, 1, none⟩ = some (.int .i64 (a : Int)) := World.rowIs.cell q5 (i := 1) (by omega)
         have hM5 := (hM1.alloc (.cells #[.bool false, .int .i64 0, .int .i64 0] 105)).kept (w2 := w5) (fun k hk => by
           have hlt : k < w1.heap.size := by
             rcases hk with rfl | q | q
             · exact hM1.lt
             · exact (hM1.bd.lt k q).2
             · exact (hM1.sh.lt k q).2
           exact o5 k (by omega))
         have e2 := hM5.c2
         obtain ⟨ao, cap, rfl, hcell⟩ := hM5.spots
         obtain ⟨g, rfl, g1, g2, g3⟩ := hcell a ha
         have q1 : w5.cell? ⟨g, a * 4 + 1, none⟩ = some (.string (sp a).tx) := (g3 1 (by omega)).1
         clear g3 hcell hM5))
    go_quiet (fail)
    go_wp2
    go_ret2
    exact ⟨lkV_some HR.out, Below.drewN (hB.trans (b5.mono b1.size)) _⟩

/-- What Of answers: of no file, or of one. -/
def foV (f : ByteArray) : Value := if f = ⟨#[]⟩ then .tuple #[fileV 0 ⟨#[]⟩ ⟨#[]⟩ 0, .bool false] else .tuple #[fileV (num f 3 2 : Int) (pAns f).2.1 (pAns f).2.2.1 (wSum (f.extract 0 (pE f)) : Nat), .bool true]
theorem foV_no {f : ByteArray} (h : f = ⟨#[]⟩) : Ending.returned (.tuple #[fileV 0 ⟨#[]⟩ ⟨#[]⟩ 0, .bool false]) = .returned (foV f) := by unfold foV; rw [if_pos h]
theorem foV_yes {f : ByteArray} (h : f ≠ ⟨#[]⟩) : Ending.returned (.tuple #[fileV (num f 3 2 : Int) (pAns f).2.1 (pAns f).2.2.1 (wSum (f.extract 0 (pE f)) : Nat), .bool true]) = .returned (foV f) := by unfold foV; rw [if_neg h]
theorem range4 {w : World} {g o : Nat} {v : Nat → Value} (h : ∀ j, j < 4 → w.cell? ⟨g, o + j, none⟩ = some (v j)) : w.rangeAt g o [v 0, v 1, v 2, v 3] := by
  intro j u hj
  have hl : j < 4 := by
    rcases Nat.lt_or_ge j 4 with c | c
    · exact c
    · rw [List.getElem?_eq_none (by simpa using c)] at hj; simp at hj
  have e : [v 0, v 1, v 2, v 3][j]? = some (v j) := by
    have h4 : j = 0 ∨ j = 1 ∨ j = 2 ∨ j = 3 := by omega
    rcases h4 with rfl | rfl | rfl | rfl <;> rfl
  rw [e] at hj
  rw [← Option.some.inj hj]
  exact h j hl
theorem file_range {w : World} {g k : Nat} {f : ByteArray} (h : ∀ j, j < 4 → w.cell? ⟨g, k * 4 + j, none⟩ = some (flV f j)) : w.rangeAt g (k * 4) [flV f 0, flV f 1, flV f 2, flV f 3] := range4 (v := flV f) h
set_option maxRecDepth 100000 in
set_option maxHeartbeats 1600000 in
theorem bof_any (p B : Nat) (room : Int) (vb vs : Value) (fl : Nat → ByteArray) (m : Nat) (sp : Nat → Spt) (n : Nat) (l : List Ev) (id : Int) (w : World) (h : PMm w p B room vb vs fl m sp n) (hm : m ≤ 8) (hL : BdL l room fl m) :
    Calls Try.prog 40 #[.pointer (some ⟨p, 0, none⟩), .int .i64 id] w fun e w' => e = .returned (foV (fileOf l id)) ∧ Below w.heap.size w w' := by
  have hM := h.alloc (.cells #[.int .i64 0, .string ⟨#[]⟩, .string ⟨#[]⟩, .int .i64 0] 48)
  have HF := hid (bfind_any p B room vb vs fl m sp n id _ hM hm)
  have hq := fRow_new w
  have hbq : Below w.heap.size w (w.alloc (.cells #[.int .i64 0, .string ⟨#[]⟩, .string ⟨#[]⟩, .int .i64 0] 48)) := (Below.refl _ _).alloc (Nat.le_refl _) _
  have HM := hid hM
  have hp := h.lt
  have HH := hid h
  clear h hM
  go_enter Try.func40, Try.ntmps40
  go_wp2_with fail
  refine Calls.mono HF.out ?_
  rintro e w1 ⟨⟨x, rfl, hx⟩, k1⟩
  rw [k1]
  clear k1 w1
  rcases hx with ⟨rfl, hno⟩ | ⟨k, hk, rfl, hid'⟩
  · have HR := hid (hL.no id hno)
    clear hno
    go_wp2_with (refine wpList_store_rowIs rfl 48 (.tmp 4) (.tmp 12) rfl w.heap.size rfl 48 4 (fRow 0 ⟨#[]⟩ ⟨#[]⟩ 0) (fRow 0 ⟨#[]⟩ ⟨#[]⟩ 0) hq rfl sizeFile (fun i _ => fRow_one _ _ _ _ i) ?_; intro w5 q5 b5 o5 s5)
    have hr := run_loadVar_rowIs (P := Try.prog) w5 w.heap.size 48 48 4 (fRow 0 ⟨#[]⟩ ⟨#[]⟩ 0) _ q5 Try.underlying48 rfl sizeFile
    refine bodyPost_ret (v := .tuple #[.agg (arrOf 4 (fRow 0 ⟨#[]⟩ ⟨#[]⟩ 0)), .bool false]) ?_ rfl ⟨foV_no HR.out, hbq.trans b5⟩
    simp [results, Try.results40, asAddr, hr]
  · have HR := hid (show fileOf l id = fl k from by rw [← hid']; exact hL.has k hk)
    have HOK := hid (hL.ok k hk)
    have hk' : (k : Int) < (m : Int) := by omega
    have hk0 : ¬ (k : Int) < 0 := by omega
    have c1 : (w.alloc (.cells #[.int .i64 0, .string ⟨#[]⟩, .string ⟨#[]⟩, .int .i64 0] 48)).cell? ⟨p, 1, none⟩ = some vb := HM.out.c1
    obtain ⟨ao, cap, rfl, hcell⟩ := HM.out.files
    obtain ⟨g, rfl, g1, g2, g3⟩ := hcell k hk
    have hrg := file_range (fun j hj => (g3 j hj).1)
    clear g3 hcell hid'
    go_wp2_with (first
      | (refine wpList_load_mid rfl 48 (.tmp 18) rfl g (k * 4) rfl _ _ hrg Try.underlying48 rfl sizeFile ?_)
      | (refine wpList_store_rowIs rfl 48 (.tmp 4) (.tmp 19) rfl w.heap.size rfl 48 4 (fRow 0 ⟨#[]⟩ ⟨#[]⟩ 0) (flV (fl k)) hq rfl sizeFile (fun i _ => fRow_one _ _ _ _ i) ?_; intro w5 q5 b5 o5 s5))
    have hr := run_loadVar_rowIs (P := Try.prog) w5 w.heap.size 48 48 4 (flV (fl k)) _ q5 Try.underlying48 rfl sizeFile
    refine bodyPost_ret (v := .tuple #[.agg (arrOf 4 (flV (fl k))), .bool true]) ?_ rfl ⟨?_, hbq.trans b5⟩
    · simp [results, Try.results40, asAddr, hr]
    · rw [HR.out]; exact foV_yes (pOk_ne HOK.out)
end Go.Proofs.Ytnconbpneimjiaa

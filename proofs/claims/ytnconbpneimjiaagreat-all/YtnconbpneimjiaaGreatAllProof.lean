/-
  The statement on All: the row's frame after the kit's shell, the walk by all_law; the script by the form's own reach.
-/
import Derived.Test.YtnconbpneimjiaaGreatRows
import Derived.WalkKit
import Derived.ProofKit
import Derived.OpenShut
import Derived.ShutString
import Derived.ChangeOld
import Derived.Below
import Derived.SizedLaws
import Derived.Deep.Slices
import Derived.Carry
import Derived.Test.YtnconbpneimjiaaGreatAllLaw
namespace Go.Proofs.YtnconbpneimjiaaGreat.all
open Go.ChangeShapes Go.WideShapes Go.ChangeAt Go.RowKit
set_option linter.unusedVariables false

theorem own : ownKnob Tryz.prog.godebug = none := by kernel_rfl
theorem laidOut : laidOutB Tryz.prog = true := by kernel_rfl
theorem cellsOp : Tryz.prog.cellsOf 25 = 8 := by kernel_rfl
theorem cells3 : Tryz.prog.cellsOf 3 = 1 := by kernel_rfl
theorem cells9 : Tryz.prog.cellsOf 9 = 1 := by kernel_rfl
theorem bytesOp : Tryz.prog.bytesOf 25 = 80 := by kernel_rfl
theorem cells_get {W : World} {a : Addr} {n : Nat} {cs : List Value} (h : W.cells? 0 a n = some cs) (i : Nat) (hi : i < n) : W.cell? (a.add i) = cs[i]? := by
  unfold World.cells? at h
  rw [if_pos (Nat.zero_le _)] at h
  exact mapM_some_get h i i (by simp [hi])
section
variable {H : Type} {enc : TypeId × Value → H}
set_option maxRecDepth 100000 in
theorem op_of {W : World} {sp : Nat → Bool} {n : Nat} {cs : List Value} {x : DataW H × List MemPlace} (h : DataW.trod enc Tryz.prog W 0 sp true n 25 cs = some x) :
    ∃ o : OpR, cs = [.int .i64 o.kd, .int .i64 o.on, .int .i64 o.a, .int .i64 o.b, .int .i64 o.c, .int .i64 o.d, .string o.s, .string o.t] ∧ OpOk o.a o.b o.c o.d o.s o.t ∧ -9223372036854775808 ≤ o.on ∧ o.on ≤ 9223372036854775807 := by
  obtain ⟨xs, m, _, _, hl, hxl, hf⟩ := DataW.trod_struct Tryz.underlying25 h
  rw [cellsOp] at hl
  match cs, hl with
  | [c0, c1, c2, c3, c4, c5, c6, c7], _ =>
    have g : ∀ i, i < 8 → ∃ y, xs[i]? = some y := fun i hi => ⟨_, List.getElem?_eq_getElem (by rw [hxl]; exact hi)⟩
    obtain ⟨y0, z0⟩ := g 0 (by omega)
    have t0 : DataW.trod enc Tryz.prog W 0 sp true m 3 [c0] = xs[0]? := by simpa [cells3] using hf 0 _ rfl
    rw [z0] at t0
    obtain ⟨x0, e0, _, w0⟩ := DataW.trod_int Tryz.underlying3 t0
    obtain ⟨y1, z1⟩ := g 1 (by omega)
    have t1 : DataW.trod enc Tryz.prog W 0 sp true m 3 [c1] = xs[1]? := by simpa [cells3] using hf 1 _ rfl
    rw [z1] at t1
    obtain ⟨x1, e1, _, w1⟩ := DataW.trod_int Tryz.underlying3 t1
    obtain ⟨y2, z2⟩ := g 2 (by omega)
    have t2 : DataW.trod enc Tryz.prog W 0 sp true m 3 [c2] = xs[2]? := by simpa [cells3] using hf 2 _ rfl
    rw [z2] at t2
    obtain ⟨x2, e2, _, w2⟩ := DataW.trod_int Tryz.underlying3 t2
    obtain ⟨y3, z3⟩ := g 3 (by omega)
    have t3 : DataW.trod enc Tryz.prog W 0 sp true m 3 [c3] = xs[3]? := by simpa [cells3] using hf 3 _ rfl
    rw [z3] at t3
    obtain ⟨x3, e3, _, w3⟩ := DataW.trod_int Tryz.underlying3 t3
    obtain ⟨y4, z4⟩ := g 4 (by omega)
    have t4 : DataW.trod enc Tryz.prog W 0 sp true m 3 [c4] = xs[4]? := by simpa [cells3] using hf 4 _ rfl
    rw [z4] at t4
    obtain ⟨x4, e4, _, w4⟩ := DataW.trod_int Tryz.underlying3 t4
    obtain ⟨y5, z5⟩ := g 5 (by omega)
    have t5 : DataW.trod enc Tryz.prog W 0 sp true m 3 [c5] = xs[5]? := by simpa [cells3] using hf 5 _ rfl
    rw [z5] at t5
    obtain ⟨x5, e5, _, w5⟩ := DataW.trod_int Tryz.underlying3 t5
    obtain ⟨y6, z6⟩ := g 6 (by omega)
    have t6 : DataW.trod enc Tryz.prog W 0 sp true m 9 [c6] = xs[6]? := by simpa [cells9] using hf 6 _ rfl
    rw [z6] at t6
    obtain ⟨x6, e6, _, w6⟩ := DataW.trod_string Tryz.underlying9 t6
    obtain ⟨y7, z7⟩ := g 7 (by omega)
    have t7 : DataW.trod enc Tryz.prog W 0 sp true m 9 [c7] = xs[7]? := by simpa [cells9] using hf 7 _ rfl
    rw [z7] at t7
    obtain ⟨x7, e7, _, w7⟩ := DataW.trod_string Tryz.underlying9 t7
    simp only [List.cons.injEq, and_true] at e0 e1 e2 e3 e4 e5 e6 e7
    have hb := bounds_i64 w1
    exact ⟨⟨x0, x1, x2, x3, x4, x5, x6, x7⟩, by rw [e0, e1, e2, e3, e4, e5, e6, e7], ⟨w2, w3, w4, w5, w6, w7⟩, hb.1, hb.2⟩
set_option maxRecDepth 100000 in
theorem script_of {W : World} {a0 : Option Addr} {len cap fuel : Nat} {x : DataW H × List MemPlace} (h : DataW.trod enc Tryz.prog W 0 (fun _ => true) true fuel 22 [.slice a0 len cap] = some x) (hlt : ∀ p ∈ x.2, p.block < W.heap.size) :
    (x.1 = .nil ∧ len = 0) ∨ (∃ elems spare, x.1 = .slice elems spare ∧ elems.length = len) ∧ ∃ O, Scr W a0 len O ∧ ∀ i, i < len → OpOk (O i).a (O i).b (O i).c (O i).d (O i).s (O i).t ∧ -9223372036854775808 ≤ (O i).on ∧ (O i).on ≤ 9223372036854775807 := by
  rcases Deep.open_slice Tryz.underlying22 h with ⟨hcs, hx⟩ | ⟨a, len', cap', m, k, D, Pl, hcs, _, hl, hm, hmm, hx, hall⟩
  · left
    simp only [List.cons.injEq, Value.slice.injEq, and_true] at hcs
    exact ⟨by rw [hx], hcs.2.1⟩
  · right
    simp only [List.cons.injEq, Value.slice.injEq, and_true] at hcs
    obtain ⟨rfl, rfl, rfl⟩ := hcs
    simp only [if_true] at hmm
    subst hmm
    refine ⟨⟨_, _, by rw [hx], by simp⟩, ?_⟩
    have hone : ∀ i, i < len → ∃ o : OpR, (∃ g off, (some a : Option Addr) = some ⟨g, off, none⟩ ∧ g < W.heap.size ∧ W.cell? ⟨g, off + i * 8, none⟩ = some (.int .i64 o.kd) ∧ W.cell? ⟨g, off + i * 8 + 1, none⟩ = some (.int .i64 o.on) ∧ W.cell? ⟨g, off + i * 8 + 2, none⟩ = some (.int .i64 o.a) ∧ W.cell? ⟨g, off + i * 8 + 3, none⟩ = some (.int .i64 o.b) ∧ W.cell? ⟨g, off + i * 8 + 4, none⟩ = some (.int .i64 o.c) ∧ W.cell? ⟨g, off + i * 8 + 5, none⟩ = some (.int .i64 o.d) ∧ W.cell? ⟨g, off + i * 8 + 6, none⟩ = some (.string o.s) ∧ W.cell? ⟨g, off + i * 8 + 7, none⟩ = some (.string o.t)) ∧ OpOk o.a o.b o.c o.d o.s o.t ∧ -9223372036854775808 ≤ o.on ∧ o.on ≤ 9223372036854775807 := by
      intro i hi
      obtain ⟨cs', h1, h2⟩ := hall i (by omega)
      obtain ⟨o, rfl, h3, h4, h5⟩ := op_of h2
      rw [cellsOp] at h1
      have hc := cells_get h1
      obtain ⟨g, off, spot⟩ := a
      have hspot : spot = none := by
        obtain ⟨cs0, u1, u2⟩ := hall 0 (by omega)
        obtain ⟨o0, rfl, _⟩ := op_of u2
        rw [cellsOp] at u1
        have := cells_get u1 0 (by omega)
        have u3 : W.cell? ((⟨g, off, spot⟩ : Addr)) = some (.int .i64 o0.kd) := by simpa [Addr.add] using this
        exact World.cell?_spot u3
      subst hspot
      have hadd : ∀ j, ((⟨g, off, none⟩ : Addr).add (i * 8)).add j = ⟨g, off + i * 8 + j, none⟩ := fun j => by rw [Addr.add_lit, Addr.add_lit]
      have h00 : W.cell? ⟨g, off + i * 8, none⟩ = some (.int .i64 o.kd) := by
        have := hc 0 (by omega)
        rw [hadd] at this
        simpa using this
      refine ⟨o, ⟨g, off, rfl, ?_, ?_, ?_, ?_, ?_, ?_, ?_, ?_, ?_⟩, h3, h4, h5⟩
      · exact World.block_lt_of_cell? W _ h00
      · have := hc 0 (by omega)
        rw [hadd] at this
        simpa using this
      · have := hc 1 (by omega)
        rw [hadd] at this
        simpa using this
      · have := hc 2 (by omega)
        rw [hadd] at this
        simpa using this
      · have := hc 3 (by omega)
        rw [hadd] at this
        simpa using this
      · have := hc 4 (by omega)
        rw [hadd] at this
        simpa using this
      · have := hc 5 (by omega)
        rw [hadd] at this
        simpa using this
      · have := hc 6 (by omega)
        rw [hadd] at this
        simpa using this
      · have := hc 7 (by omega)
        rw [hadd] at this
        simpa using this
    refine ⟨fun i => if hi : i < len then (hone i hi).choose else ⟨0, 0, 0, 0, 0, 0, ⟨#[]⟩, ⟨#[]⟩⟩, fun i hi => ?_, fun i hi => ?_⟩
    · simp only [dif_pos hi]
      exact (hone i hi).choose_spec.1
    · simp only [dif_pos hi]
      exact (hone i hi).choose_spec.2
end

set_option maxRecDepth 100000 in
theorem lifted (os : Os) (started : os.Started) (H : Type) (enc : TypeId × Value → H) :
    ReturnsInHanded {} Tryz.checked os 3 .any (Rows.allSpec.pre6 enc Tryz.prog Tryz.f3 Rows.allRow.domain false) (Rows.allSpec.post enc Tryz.prog Tryz.f3 false true false false) := by
  refine returnsInHanded_of_change_sized (C := Tryz.checked) own started (by kernel_rfl) Tryz.func3
    (ChangeSpec.witness6 (enc := enc) (C := Tryz.checked) false ⟨#[], #[.slice none 0 0], []⟩ 8 (by kernel_rfl) (by kernel_rfl) (by kernel_rfl) (by kernel_rfl)) ?_
  intro W base args ds gs before hval0 hW hcnd hsz _
  have hval : ∀ (j : Nat) t v, Tryz.f3.params[j]? = some t → args[j]? = some v → Value.okWide Tryz.prog W .any base t v := hval0
  have hW' := hW
  obtain ⟨p, q, hA0, hV, rfl, hfz, hnd⟩ := hW
  have hA : DataW.TrodAll enc Tryz.prog W 0 (fun _ => true) true Tryz.f3.params.toList args.toList ds p := hA0
  rw [Tryz.params3] at hA hval
  obtain ⟨v0, vs0, d0, ds0, p0, q0, hargs, rfl, rfl, h0, r0⟩ := trodAll_cons hA
  obtain ⟨rfl, rfl, rfl⟩ := trodAll_nil r0
  obtain rfl : args = #[v0] := by cases args; simp_all
  obtain ⟨rfl, rfl⟩ := trodVars_none hV
  clear hA0 hval0
  have h0k := h0
  have hlt : ∀ x ∈ p0, x.block < W.heap.size := fun x hx => hW'.lt x (by simpa using hx)
  obtain ⟨a0, len, cap, rfl⟩ := okWide_slice Tryz.underlying22 (hval 0 22 v0 rfl rfl)
  obtain ⟨fuel, hf⟩ := h0
  have hmain : ∃ O, Scr W a0 len O ∧ (∀ i, i < len → OpOk (O i).a (O i).b (O i).c (O i).d (O i).s (O i).t ∧ -9223372036854775808 ≤ (O i).on ∧ (O i).on ≤ 9223372036854775807) ∧ len ≤ 1780000000000 := by
    rcases script_of (x := (d0, p0)) hf hlt with ⟨_, h2⟩ | ⟨⟨elems, spare, h2, h3⟩, O, h4, h5⟩
    · exact ⟨fun _ => ⟨0, 0, 0, 0, 0, 0, ⟨#[]⟩, ⟨#[]⟩⟩, fun i hi => by omega, fun i hi => by omega, by omega⟩
    · have hs : (elems.length + spare.length) * Tryz.prog.bytesOf 25 ≤ reachBytes := sized_slice hsz (j := 0) (t := 22) (e := 25) (elems := elems) (spare := spare) (by rw [Tryz.params3]; rfl) (by show some d0 = _; rw [show d0 = .slice elems spare from h2]) Tryz.underlying22
      rw [bytesOp, h3] at hs
      exact ⟨O, h4, h5, by unfold reachBytes at hs; omega⟩
  obtain ⟨O, s1, s2, s3⟩ := hmain
  refine (all_law a0 len cap O W s1 s2 s3).mono fun e W' ⟨he, bel⟩ => ?_
  subst he
  exact ⟨_, rfl, _, _, _, [], _, [], hW', trodAll_mk1 (shut_bool Tryz.underlying4 _), (trodAll_cons_mk (Below.trod laidOut (by kernel_rfl) (of_decide_eq_true (by kernel_rfl)) h0k bel hlt) trodAll_mk0), rfl, bel.frame _, fun h => by cases h⟩

theorem over : Rows.allRow.holds Tryz.pinned (OpenSpec.ofChange Rows.allSpec) :=
  OpenClaim.holds_of_wide 3 Tryz.f3 rfl rfl rfl rfl rfl rfl rfl ⟨rfl, rfl, rfl, rfl, rfl⟩ rfl rfl rfl rfl rfl (by kernel_rfl) Tryz.func3 (by kernel_rfl)
    (of_decide_eq_true (by kernel_rfl)) (by unfold Func.isWrapper; first | (rw [if_pos (by decide +kernel)]; kernel_rfl) | (rw [if_neg (by decide +kernel)]; exact ⟨rfl, rfl⟩))
    (fun os started H enc _ => lifted os started H enc)
end Go.Proofs.YtnconbpneimjiaaGreat.all
namespace Go.Proofs.YtnconbpneimjiaaGreat
/-- THE STATEMENT -/
theorem all_holds : Rows.AllSaid := all.over
#print axioms all_holds
end Go.Proofs.YtnconbpneimjiaaGreat

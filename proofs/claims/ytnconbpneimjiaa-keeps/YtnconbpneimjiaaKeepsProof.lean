/-
  The statement on Keeps: the row's frame after the kit's shell, the walk by keeps_law; the script by the form's own reach.
-/
import Derived.Test.YtnconbpneimjiaaRows
import Derived.WalkKit
import Derived.ProofKit
import Derived.OpenShut
import Derived.ShutString
import Derived.ChangeOld
import Derived.Below
import Derived.SizedLaws
import Derived.Deep.Slices
import Derived.Carry
import Derived.Test.YtnconbpneimjiaaKeepsLaw
namespace Go.Proofs.Ytnconbpneimjiaa.keeps
open Go.ChangeShapes Go.WideShapes Go.ChangeAt Go.RowKit
open Go.ChangeMaps (open_string shut_string)
set_option linter.unusedVariables false

theorem own : ownKnob Try.prog.godebug = none := by kernel_rfl
theorem laidOut : laidOutB Try.prog = true := by kernel_rfl
theorem cellsSt : Try.prog.cellsOf 41 = 4 := by kernel_rfl
theorem cells3 : Try.prog.cellsOf 3 = 1 := by kernel_rfl
theorem cells9 : Try.prog.cellsOf 9 = 1 := by kernel_rfl
theorem bytesSt : Try.prog.bytesOf 41 = 40 := by kernel_rfl
theorem cells_get {W : World} {a : Addr} {n : Nat} {cs : List Value} (h : W.cells? 0 a n = some cs) (i : Nat) (hi : i < n) : W.cell? (a.add i) = cs[i]? := by
  unfold World.cells? at h
  rw [if_pos (Nat.zero_le _)] at h
  exact mapM_some_get h i i (by simp [hi])
section
variable {H : Type} {enc : TypeId × Value → H}
set_option maxRecDepth 100000 in
theorem st_of {W : World} {sp : Nat → Bool} {n : Nat} {cs : List Value} {x : DataW H × List MemPlace} (h : DataW.trod enc Try.prog W 0 sp true n 41 cs = some x) :
    ∃ o : StR, cs = [.int .i64 o.kd, .int .i64 o.a, .int .i64 o.d, .string o.s] ∧ StOk o.kd o.a o.d o.s := by
  obtain ⟨xs, m, _, _, hl, hxl, hf⟩ := DataW.trod_struct Try.underlying41 h
  rw [cellsSt] at hl
  match cs, hl with
  | [c0, c1, c2, c3], _ =>
    have g : ∀ i, i < 4 → ∃ y, xs[i]? = some y := fun i hi => ⟨_, List.getElem?_eq_getElem (by rw [hxl]; exact hi)⟩
    obtain ⟨y0, z0⟩ := g 0 (by omega)
    have t0 : DataW.trod enc Try.prog W 0 sp true m 3 [c0] = xs[0]? := by simpa [cells3] using hf 0 _ rfl
    rw [z0] at t0
    obtain ⟨x0, e0, _, w0⟩ := DataW.trod_int Try.underlying3 t0
    obtain ⟨y1, z1⟩ := g 1 (by omega)
    have t1 : DataW.trod enc Try.prog W 0 sp true m 3 [c1] = xs[1]? := by simpa [cells3] using hf 1 _ rfl
    rw [z1] at t1
    obtain ⟨x1, e1, _, w1⟩ := DataW.trod_int Try.underlying3 t1
    obtain ⟨y2, z2⟩ := g 2 (by omega)
    have t2 : DataW.trod enc Try.prog W 0 sp true m 3 [c2] = xs[2]? := by simpa [cells3] using hf 2 _ rfl
    rw [z2] at t2
    obtain ⟨x2, e2, _, w2⟩ := DataW.trod_int Try.underlying3 t2
    obtain ⟨y3, z3⟩ := g 3 (by omega)
    have t3 : DataW.trod enc Try.prog W 0 sp true m 9 [c3] = xs[3]? := by simpa [cells9] using hf 3 _ rfl
    rw [z3] at t3
    obtain ⟨x3, e3, _, w3⟩ := DataW.trod_string Try.underlying9 t3
    simp only [List.cons.injEq, and_true] at e0 e1 e2 e3
    have b0 := bounds_i64 w0
    have b1 := bounds_i64 w1
    have b2 := bounds_i64 w2
    exact ⟨⟨x0, x1, x2, x3⟩, by rw [e0, e1, e2, e3], ⟨b0.1, b0.2, b1.1, b1.2, b2.1, b2.2, w3⟩⟩
set_option maxRecDepth 100000 in
theorem script_of {W : World} {a0 : Option Addr} {len cap fuel : Nat} {x : DataW H × List MemPlace} (h : DataW.trod enc Try.prog W 0 (fun _ => true) true fuel 36 [.slice a0 len cap] = some x) :
    (x.1 = .nil ∧ len = 0) ∨ (∃ elems spare, x.1 = .slice elems spare ∧ elems.length = len) ∧ ∃ O, KScr W a0 len O ∧ ∀ i, i < len → StOk (O i).kd (O i).a (O i).d (O i).s := by
  rcases Deep.open_slice Try.underlying36 h with ⟨hcs, hx⟩ | ⟨a, len', cap', m, k, D, Pl, hcs, _, hl, hm, hmm, hx, hall⟩
  · left
    simp only [List.cons.injEq, Value.slice.injEq, and_true] at hcs
    exact ⟨by rw [hx], hcs.2.1⟩
  · right
    simp only [List.cons.injEq, Value.slice.injEq, and_true] at hcs
    obtain ⟨rfl, rfl, rfl⟩ := hcs
    simp only [if_true] at hmm
    subst hmm
    refine ⟨⟨_, _, by rw [hx], by simp⟩, ?_⟩
    have hone : ∀ i, i < len → ∃ o : StR, (∃ g off, (some a : Option Addr) = some ⟨g, off, none⟩ ∧ g < W.heap.size ∧ W.cell? ⟨g, off + i * 4, none⟩ = some (.int .i64 o.kd) ∧ W.cell? ⟨g, off + i * 4 + 1, none⟩ = some (.int .i64 o.a) ∧ W.cell? ⟨g, off + i * 4 + 2, none⟩ = some (.int .i64 o.d) ∧ W.cell? ⟨g, off + i * 4 + 3, none⟩ = some (.string o.s)) ∧ StOk o.kd o.a o.d o.s := by
      intro i hi
      obtain ⟨cs', h1, h2⟩ := hall i (by omega)
      obtain ⟨o, rfl, h3⟩ := st_of h2
      rw [cellsSt] at h1
      have hc := cells_get h1
      obtain ⟨g, off, spot⟩ := a
      have hspot : spot = none := by
        obtain ⟨cs0, u1, u2⟩ := hall 0 (by omega)
        obtain ⟨o0, rfl, _⟩ := st_of u2
        rw [cellsSt] at u1
        have := cells_get u1 0 (by omega)
        have u3 : W.cell? ((⟨g, off, spot⟩ : Addr)) = some (.int .i64 o0.kd) := by simpa [Addr.add] using this
        exact World.cell?_spot u3
      subst hspot
      have hadd : ∀ j, ((⟨g, off, none⟩ : Addr).add (i * 4)).add j = ⟨g, off + i * 4 + j, none⟩ := fun j => by rw [Addr.add_lit, Addr.add_lit]
      have h00 : W.cell? ⟨g, off + i * 4, none⟩ = some (.int .i64 o.kd) := by
        have := hc 0 (by omega)
        rw [hadd] at this
        simpa using this
      refine ⟨o, ⟨g, off, rfl, ?_, ?_, ?_, ?_, ?_⟩, h3⟩
      · exact World.block_lt_of_cell? W _ h00
      · exact h00
      · have := hc 1 (by omega)
        rw [hadd] at this
        simpa using this
      · have := hc 2 (by omega)
        rw [hadd] at this
        simpa using this
      · have := hc 3 (by omega)
        rw [hadd] at this
        simpa using this
    refine ⟨fun i => if hi : i < len then (hone i hi).choose else ⟨0, 0, 0, ⟨#[]⟩⟩, fun i hi => ?_, fun i hi => ?_⟩
    · simp only [dif_pos hi]
      exact (hone i hi).choose_spec.1
    · simp only [dif_pos hi]
      exact (hone i hi).choose_spec.2
end

set_option maxRecDepth 100000 in
theorem lifted (os : Os) (started : os.Started) (H : Type) (enc : TypeId × Value → H) :
    ReturnsInHanded {} Try.checked os 4 .any (Rows.keepsSpec.pre6 enc Try.prog Try.f4 Rows.keepsRow.domain false) (Rows.keepsSpec.post enc Try.prog Try.f4 false true false false) := by
  refine returnsInHanded_of_change_sized (C := Try.checked) own started (by kernel_rfl) Try.func4
    (ChangeSpec.witness6 (enc := enc) (C := Try.checked) false ⟨#[], #[.string ByteArray.empty, .string ByteArray.empty, .int .i64 0, .slice none 0 0], []⟩ 8 (by kernel_rfl) (by kernel_rfl) (by kernel_rfl) (by kernel_rfl)) ?_
  intro W base args ds gs before hval0 hW hcnd hsz _
  have hval : ∀ (j : Nat) t v, Try.f4.params[j]? = some t → args[j]? = some v → Value.okWide Try.prog W .any base t v := hval0
  have hW' := hW
  obtain ⟨p, q, hA0, hV, rfl, hfz, hnd⟩ := hW
  have hA : DataW.TrodAll enc Try.prog W 0 (fun _ => true) true Try.f4.params.toList args.toList ds p := hA0
  rw [Try.params4] at hA hval
  obtain ⟨v0, vs0, d0, ds0, p0, q0, hargs, rfl, rfl, h0, r0⟩ := trodAll_cons hA
  obtain ⟨v1, vs1, d1, ds1, p1, q1, rfl, rfl, rfl, h1, r1⟩ := trodAll_cons r0
  obtain ⟨v2, vs2, d2, ds2, p2, q2, rfl, rfl, rfl, h2, r2⟩ := trodAll_cons r1
  obtain ⟨v3, vs3, d3, ds3, p3, q3, rfl, rfl, rfl, h3, r3⟩ := trodAll_cons r2
  obtain ⟨rfl, rfl, rfl⟩ := trodAll_nil r3
  obtain rfl : args = #[v0, v1, v2, v3] := by cases args; simp_all
  obtain ⟨rfl, rfl⟩ := trodVars_none hV
  obtain ⟨a0, rfl, rfl, rfl, w0⟩ := open_string Try.underlying9 (hval 0 9 v0 rfl rfl) h0
  obtain ⟨a1, rfl, rfl, rfl, w1⟩ := open_string Try.underlying9 (hval 1 9 v1 rfl rfl) h1
  obtain ⟨a2, rfl, rfl, rfl, w2⟩ := open_int Try.underlying3 (hval 2 3 v2 rfl rfl) h2
  clear hA0 hval0
  have h3k := h3
  have hlt : ∀ x ∈ p3, x.block < W.heap.size := fun x hx => hW'.lt x (by simpa using hx)
  obtain ⟨a3, len, cap, rfl⟩ := okWide_slice Try.underlying36 (hval 3 36 v3 rfl rfl)
  obtain ⟨fuel, hf⟩ := h3
  have hmain : ∃ O, KScr W a3 len O ∧ (∀ i, i < len → StOk (O i).kd (O i).a (O i).d (O i).s) ∧ len ≤ 4000000000000 := by
    rcases script_of (x := (d3, p3)) hf with ⟨_, h2⟩ | ⟨⟨elems, spare, h2, h3⟩, O, h4, h5⟩
    · exact ⟨fun _ => ⟨0, 0, 0, ⟨#[]⟩⟩, fun i hi => by omega, fun i hi => by omega, by omega⟩
    · have hs : (elems.length + spare.length) * Try.prog.bytesOf 41 ≤ reachBytes := sized_slice hsz (j := 3) (t := 36) (e := 41) (elems := elems) (spare := spare) (by rw [Try.params4]; rfl) (by show some d3 = _; rw [show d3 = .slice elems spare from h2]) Try.underlying36
      rw [bytesSt, h3] at hs
      exact ⟨O, h4, h5, by unfold reachBytes at hs; omega⟩
  obtain ⟨O, s1, s2, s3⟩ := hmain
  have hb2 := bounds_i64 w2
  refine (keeps_law a0 a1 a2 a3 len cap O W w0 w1 hb2.1 hb2.2 s1 s2 s3).mono fun e W' ⟨he, bel⟩ => ?_
  subst he
  exact ⟨_, rfl, _, _, _, [], _, [], hW', trodAll_mk1 (shut_bool Try.underlying4 _), (trodAll_cons_mk (shut_string Try.underlying9 w0) (trodAll_cons_mk (shut_string Try.underlying9 w1) (trodAll_cons_mk (shut_int Try.underlying3 w2) (trodAll_cons_mk (Below.trod laidOut (by kernel_rfl) (of_decide_eq_true (by kernel_rfl)) h3k bel hlt) trodAll_mk0)))), rfl, bel.frame _, fun h => by cases h⟩

theorem over : Rows.keepsRow.holds Try.pinned (OpenSpec.ofChange Rows.keepsSpec) :=
  OpenClaim.holds_of_wide 4 Try.f4 rfl rfl rfl rfl rfl rfl rfl ⟨rfl, rfl, rfl, rfl, rfl⟩ rfl rfl rfl rfl rfl (by kernel_rfl) Try.func4 (by kernel_rfl)
    (of_decide_eq_true (by kernel_rfl)) (by unfold Func.isWrapper; first | (rw [if_pos (by decide +kernel)]; kernel_rfl) | (rw [if_neg (by decide +kernel)]; exact ⟨rfl, rfl⟩))
    (fun os started H enc _ => lifted os started H enc)
end Go.Proofs.Ytnconbpneimjiaa.keeps
namespace Go.Proofs.Ytnconbpneimjiaa
/-- THE STATEMENT -/
theorem keeps_holds : Rows.KeepsSaid := keeps.over
#print axioms keeps_holds
end Go.Proofs.Ytnconbpneimjiaa

/-
  Laws on whole rows: a row read whole, a row written whole, over 'rowIs'.
-/
import Derived.WalkKit
import Derived.Deep.OwnRows
import Derived.Deep.MidRow
import Derived.Deep.WholeRow
namespace Go.Proofs.Ytaofgdgfmdieeaa
open Go.RowKit
variable {P : Program}

/-- The row as an array. -/
def arrOf (n : Nat) (f : Nat → Value) : Array Value := ((List.range n).map f).toArray
theorem arrOf_size (n : Nat) (f : Nat → Value) : (arrOf n f).size = n := by simp [arrOf]
theorem arrOf_get (n : Nat) (f : Nat → Value) (i : Nat) (hi : i < n) : (arrOf n f)[i]? = some (f i) := by simp [arrOf, hi]
theorem arrOf_all (n : Nat) (f : Nat → Value) (h : ∀ i, i < n → (f i).oneCell' = true) : (arrOf n f).all (·.oneCell') = true := by
  unfold arrOf
  refine all_oneCell_toArray fun v hv => ?_
  obtain ⟨i, hi, rfl⟩ := List.mem_map.1 hv
  exact h i (List.mem_range.1 hi)
theorem arrOf_eq {c : Array Value} {n : Nat} {f : Nat → Value} (hs : c.size = n) (h : ∀ i, i < n → c[i]? = some (f i)) : c = arrOf n f := by
  apply Array.ext_getElem?
  intro i
  by_cases hi : i < n
  · rw [h i hi, arrOf_get n f i hi]
  · rw [Array.getElem?_eq_none (by omega), Array.getElem?_eq_none (by rw [arrOf_size]; omega)]

theorem wpList_load_rowIs {ops : Array Oper} {rest : List Oper} {o : Oper} {a : Act} {w : World} {Q : Exit → Act → World → Prop} (hgd : o.guard = none) (ty : TypeId) (x : Operand) (ho : o.op = .load ty x)
    (g : Nat) (hx : a.eval x = .pointer (some ⟨g, 0, none⟩)) (t : TypeId) (n : Nat) (f : Nat → Value) (hrow : w.rowIs g t n f) (d : TypeDesc)
    (hu : P.underlying ty = some d) (hd : (match d with | .struct _ | .array _ _ => true | _ => false) = true) (hi : (P.info? ty).map (·.size) = some n)
    (h : wpList P ops Q rest (a.put o.dst (.agg (arrOf n f))) w) : wpList P ops Q (o :: rest) a w := by
  obtain ⟨c, hc, hs, hf⟩ := hrow
  have e := arrOf_eq hs hf
  rw [← e] at h
  exact wpList_load_row hgd ty x ho g hx t c (0, 0) d hc hu hd (by rw [hs]; exact hi) h

theorem wpList_store_rowIs {ops : Array Oper} {rest : List Oper} {op : Oper} {a : Act} {w : World} {Q : Exit → Act → World → Prop} (hgd : op.guard = none) (ty : TypeId) (x y : Operand) (ho : op.op = .store ty x y)
    (g : Nat) (hx : a.eval x = .pointer (some ⟨g, 0, none⟩)) (t : TypeId) (n : Nat) (f f' : Nat → Value) (hrow : w.rowIs g t n f) (hy : a.eval y = .agg (arrOf n f'))
    (hi : (P.info? ty).map (·.size) = some n) (h1 : ∀ i, i < n → (f' i).oneCell' = true)
    (h : ∀ w', w'.rowIs g t n f' → Below g w w' → (∀ k, k ≠ g → w'.heap[k]? = w.heap[k]?) → w'.heap.size = w.heap.size → wpList P ops Q rest (a.put op.dst undef) w') : wpList P ops Q (op :: rest) a w := by
  obtain ⟨c, hc, hs, hf⟩ := hrow
  have hr := run_storeVar_row (P := P) w g t ty c (arrOf n f') hc (by rw [arrOf_size]; exact hi) (by rw [arrOf_size]; exact hs) (arrOf_all n f' h1)
  refine wpList_plain hgd fun _ hK => ?_
  unfold Oper.wp execOp
  simp only [ho, hx, hy, Instr.storeAt, Instr.sureAddr, Sem.run_bind, Sem.run_pure, Result.andThen_ok, hr]
  have hoth : ∀ k, k ≠ g → (w.setRow g (arrOf n f')).heap[k]? = w.heap[k]? := fun k hk => setRow_other w g k _ hk
  refine hK _ _ (h _ ⟨_, setRow_heap w g c _ t (0, 0) hc, arrOf_size _ _, fun i hi => arrOf_get n f' i hi⟩ ⟨rfl, rfl, rfl, by simp, fun k hk => hoth k (by omega)⟩ hoth (by simp))

/-- A part of a row, read whole. -/
theorem wpList_load_part {ops : Array Oper} {rest : List Oper} {op : Oper} {a : Act} {w : World} {Q : Exit → Act → World → Prop} (hgd : op.guard = none) (ty : TypeId) (x : Operand) (ho : op.op = .load ty x)
    (b o : Nat) (hx : a.eval x = .pointer (some ⟨b, o, none⟩)) (n : Nat) (f : Nat → Value) (d : TypeDesc) (hc : ∀ i, i < n → w.cell? ⟨b, o + i, none⟩ = some (f i))
    (hu : P.underlying ty = some d) (hd : d.isRow = true) (hi : (P.info? ty).map (·.size) = some n)
    (h : wpList P ops Q rest (a.put op.dst (.agg (arrOf n f))) w) : wpList P ops Q (op :: rest) a w := by
  refine wpList_load_mid hgd ty x ho b o hx ((List.range n).map f) d (fun j v hv => ?_) hu hd (by simpa using hi) h
  have hj : j < n := by
    have := (List.getElem?_eq_some_iff.1 hv).1
    simpa using this
  rw [hc j hj]
  simpa [hj] using hv
/-- A row read whole, as a result is read. -/
theorem run_loadVar_rowIs (w : World) (g : Nat) (t ty : TypeId) (n : Nat) (f : Nat → Value) (d : TypeDesc) (hrow : w.rowIs g t n f)
    (hu : P.underlying ty = some d) (hd : (match d with | .struct _ | .array _ _ => true | _ => false) = true) (hi : (P.info? ty).map (·.size) = some n) :
    (loadVar ty ⟨g, 0, none⟩).run P w = .ok (.agg (arrOf n f)) w := by
  obtain ⟨c, hc, hs, hf⟩ := hrow
  have e := arrOf_eq hs hf
  rw [← e]
  exact run_loadVar_row w g t ty c (0, 0) d hc hu hd (by rw [hs]; exact hi)
end Go.Proofs.Ytaofgdgfmdieeaa

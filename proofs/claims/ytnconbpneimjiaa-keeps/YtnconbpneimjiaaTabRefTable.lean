/-
  P4: the walks of the document's answer on tables.
  P4: the walk of the document's answer, Table.
-/
import Derived.Test.YtnconbpneimjiaaTabWalks
import Derived.Test.YtnconbpneimjiaaPlainT
import Derived.Maps.AppendAt
namespace Go.Proofs.Ytnconbpneimjiaa
open Go.RowKit Go.PlainAid

/-! ### P4: the walks of the document's answer on tables. -/
theorem Try.infoInt : (Try.prog.info? 3).map (fun i => (i.zero, i.size, i.bytes)) = some (some (.int .i64 0), 1, 8) := by kernel_rfl
theorem ret_int' {k : IntKind} {a b : Int} (h : a = b) : Ending.returned (.int k a) = .returned (.int k b) := by rw [h]
theorem ret_bool {a b : Bool} (h : a = b) : Ending.returned (.bool a) = .returned (.bool b) := by rw [h]
theorem own_drewN {w : World} {base e size : Nat} {v : Value} {n : Nat} {xs : List Value} (m : Nat) (h : w.ownsRow base e size v n xs) : (w.drewN m).ownsRow base e size v n xs := h
/-- A number as a value. -/
def natV (x : Nat) : Value := .int .i64 (x : Int)
/-- A row of n numbers in block b. -/
def Ints (w : World) (b n : Nat) (f : Nat → Int) : Prop := w.rowIs b 3 n (fun i => .int .i64 (f i))
theorem Ints.cell {w : World} {b n : Nat} {f : Nat → Int} (h : Ints w b n f) {i : Nat} (hi : i < n) : w.cell? ⟨b, i, none⟩ = some (.int .i64 (f i)) := World.rowIs.cell h hi
theorem Ints.set {w : World} {b n : Nat} {f g : Nat → Int} (h : Ints w b n f) (i : Nat) (x : Int) (e : ∀ j, upd f i x j = g j) : Ints (w.setCell ⟨b, i, none⟩ (.int .i64 x)) b n g := by
  refine World.rowIs.congr (World.rowIs.set h i _) fun j _ => ?_
  rw [← e j]; unfold upd; split <;> rfl
theorem Ints.below {w w' : World} {b n B : Nat} {f : Nat → Int} (h : Ints w b n f) (hb : Below B w w') (hB : b < B) : Ints w' b n f := World.rowIs.of_block h (hb.block b hB)

/-! ### P4: the walk of the document's answer, Table. -/
theorem mget_cell {w : World} {base g n cap : Nat} {ms : List Nat} (h : w.ownsRow base 3 1 (.slice (some ⟨g, 0, none⟩) n cap) n (ms.map natV)) : ∀ j, j < ms.length → w.cell? ⟨g, j, none⟩ = some (.int .i64 (mget ms j : Int)) := by
  intro j hj
  have hl : ms.length = n := by have := h.1; simpa using this
  rw [World.ownsRow.cellAt h j (by omega)]
  simp [mget, natV, List.getElem?_eq_getElem hj]
theorem refOut_step (l : Nat → Int) (ms : List Nat) (k : Nat) : refOut l ms (k + 1) = refOut l ms k ++ [(mget ms k : Int), shTo l ms (mget ms k) 63] := rfl
theorem shTo_yes {l : Nat → Int} {ms : List Nat} {v j : Nat} (h : rnk l ms v ((j : Int) + 1) < 64 - (ms.length : Int)) : shTo l ms v (j + 1) = shTo l ms v j + 1 := by rw [shTo, if_pos h]
theorem shTo_no {l : Nat → Int} {ms : List Nat} {v j : Nat} (h : ¬ rnk l ms v ((j : Int) + 1) < 64 - (ms.length : Int)) : shTo l ms v (j + 1) = shTo l ms v j := by rw [shTo, if_neg h]; simp

end Go.Proofs.Ytnconbpneimjiaa

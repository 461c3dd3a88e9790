/-
  P1 to P12: one call without a store, as the law All makes it.
-/
import Derived.Test.YtnconbpneimjiaaGreatSumWalks
import Derived.Test.YtnconbpneimjiaaGreatTabLearn
import Derived.Test.YtnconbpneimjiaaGreatSqzLaw
import Derived.Test.YtnconbpneimjiaaGreatRefUns
import Derived.Test.YtnconbpneimjiaaGreatCovLaw
import Derived.Test.YtnconbpneimjiaaGreatWriteLaw
import Derived.Test.YtnconbpneimjiaaGreatParseLaw
import Derived.Test.YtnconbpneimjiaaGreatTrainLaw
import Derived.Test.YtnconbpneimjiaaGreatFrmLaw
import Derived.Test.YtnconbpneimjiaaGreatStoredLaw
namespace Go.Proofs.YtnconbpneimjiaaGreat
open Go.RowKit Go.PlainAid

set_option maxRecDepth 100000 in
theorem plain_1 (on a b c d : Int) (s t : ByteArray) (w : World) (h : OpOk a b c d s t) :
    Calls Tryz.prog 7 #[opV 1 on a b c d s t] w fun e w' => e = .returned (.bool true) ∧ Below w.heap.size w w' := by
  have H := hid (fun w => sums_law s w h.s)
  clear h
  unfold opV
  go_enter Tryz.func7, Tryz.ntmps7
  go_wp2_with fail
  refine Calls.mono (H.out _) ?_
  rintro e w1 ⟨rfl, k1⟩
  rw [k1]
  clear k1 w1
  go_wp2
  go_ret
  exact ⟨rfl, (Below.refl w.heap.size w).alloc (Nat.le_refl _) _⟩
set_option maxRecDepth 100000 in
theorem plain_2 (on a b c d : Int) (s t : ByteArray) (w : World) (h : OpOk a b c d s t) :
    Calls Tryz.prog 7 #[opV 2 on a b c d s t] w fun e w' => e = .returned (.bool true) ∧ Below w.heap.size w w' := by
  have H := hid (fun w => tables_law s w h.s)
  clear h
  unfold opV
  go_enter Tryz.func7, Tryz.ntmps7
  go_wp2_with fail
  refine Calls.mono (H.out _) ?_
  rintro e w1 ⟨rfl, b1⟩
  go_wp2
  go_ret
  have B0 : Below w.heap.size w (w.alloc (.cells #[.int .i64 2, .int .i64 on, .int .i64 a, .int .i64 b, .int .i64 c, .int .i64 d, .string s, .string t] 25)) := (Below.refl _ _).alloc (Nat.le_refl _) _
  exact ⟨rfl, B0.trans (b1.mono B0.size)⟩
set_option maxRecDepth 100000 in
theorem plain_3 (on a b c d : Int) (s t : ByteArray) (w : World) (h : OpOk a b c d s t) :
    Calls Tryz.prog 7 #[opV 3 on a b c d s t] w fun e w' => e = .returned (.bool true) ∧ Below w.heap.size w w' := by
  have H := hid (fun w => squeezes_law s t w h.s h.t)
  clear h
  unfold opV
  go_enter Tryz.func7, Tryz.ntmps7
  go_wp2_with fail
  refine Calls.mono (H.out _) ?_
  rintro e w1 ⟨rfl, b1⟩
  go_wp2
  go_ret
  have B0 : Below w.heap.size w (w.alloc (.cells #[.int .i64 3, .int .i64 on, .int .i64 a, .int .i64 b, .int .i64 c, .int .i64 d, .string s, .string t] 25)) := (Below.refl _ _).alloc (Nat.le_refl _) _
  exact ⟨rfl, B0.trans (b1.mono B0.size)⟩
set_option maxRecDepth 100000 in
theorem plain_4 (on a b c d : Int) (s t : ByteArray) (w : World) (h : OpOk a b c d s t) :
    Calls Tryz.prog 7 #[opV 4 on a b c d s t] w fun e w' => e = .returned (.bool true) ∧ Below w.heap.size w w' := by
  have H := hid (fun w => unsqueezes_law s t a w h.s h.t h.a)
  clear h
  unfold opV
  go_enter Tryz.func7, Tryz.ntmps7
  go_wp2_with fail
  refine Calls.mono (H.out _) ?_
  rintro e w1 ⟨rfl, b1⟩
  go_wp2
  go_ret
  have B0 : Below w.heap.size w (w.alloc (.cells #[.int .i64 4, .int .i64 on, .int .i64 a, .int .i64 b, .int .i64 c, .int .i64 d, .string s, .string t] 25)) := (Below.refl _ _).alloc (Nat.le_refl _) _
  exact ⟨rfl, B0.trans (b1.mono B0.size)⟩
set_option maxRecDepth 100000 in
theorem plain_5 (on a b c d : Int) (s t : ByteArray) (w : World) (h : OpOk a b c d s t) :
    Calls Tryz.prog 7 #[opV 5 on a b c d s t] w fun e w' => e = .returned (.bool true) ∧ Below w.heap.size w w' := by
  have H := hid (fun w => covers_law s b c d w h.s h.b h.c h.d)
  clear h
  unfold opV
  go_enter Tryz.func7, Tryz.ntmps7
  go_wp2_with fail
  refine Calls.mono (H.out _) ?_
  rintro e w1 ⟨rfl, b1⟩
  go_wp2
  go_ret
  have B0 : Below w.heap.size w (w.alloc (.cells #[.int .i64 5, .int .i64 on, .int .i64 a, .int .i64 b, .int .i64 c, .int .i64 d, .string s, .string t] 25)) := (Below.refl _ _).alloc (Nat.le_refl _) _
  exact ⟨rfl, B0.trans (b1.mono B0.size)⟩
set_option maxRecDepth 100000 in
theorem plain_6 (on a b c d : Int) (s t : ByteArray) (w : World) (h : OpOk a b c d s t) :
    Calls Tryz.prog 7 #[opV 6 on a b c d s t] w fun e w' => e = .returned (.bool true) ∧ Below w.heap.size w w' := by
  have H := hid (fun w => writes_law a s t w h.a h.s h.t)
  clear h
  unfold opV
  go_enter Tryz.func7, Tryz.ntmps7
  go_wp2_with fail
  refine Calls.mono (H.out _) ?_
  rintro e w1 ⟨rfl, b1⟩
  go_wp2
  go_ret
  have B0 : Below w.heap.size w (w.alloc (.cells #[.int .i64 6, .int .i64 on, .int .i64 a, .int .i64 b, .int .i64 c, .int .i64 d, .string s, .string t] 25)) := (Below.refl _ _).alloc (Nat.le_refl _) _
  exact ⟨rfl, B0.trans (b1.mono B0.size)⟩
set_option maxRecDepth 100000 in
theorem plain_7 (on a b c d : Int) (s t : ByteArray) (w : World) (h : OpOk a b c d s t) :
    Calls Tryz.prog 7 #[opV 7 on a b c d s t] w fun e w' => e = .returned (.bool true) ∧ Below w.heap.size w w' := by
  have H := hid (fun w => parses_law s w h.s)
  clear h
  unfold opV
  go_enter Tryz.func7, Tryz.ntmps7
  go_wp2_with fail
  refine Calls.mono (H.out _) ?_
  rintro e w1 ⟨rfl, b1⟩
  go_wp2
  go_ret
  have B0 : Below w.heap.size w (w.alloc (.cells #[.int .i64 7, .int .i64 on, .int .i64 a, .int .i64 b, .int .i64 c, .int .i64 d, .string s, .string t] 25)) := (Below.refl _ _).alloc (Nat.le_refl _) _
  exact ⟨rfl, B0.trans (b1.mono B0.size)⟩
set_option maxRecDepth 100000 in
theorem plain_8 (on a b c d : Int) (s t : ByteArray) (w : World) (h : OpOk a b c d s t) :
    Calls Tryz.prog 7 #[opV 8 on a b c d s t] w fun e w' => e = .returned (.bool true) ∧ Below w.heap.size w w' := by
  have H := hid (fun w => trains_law a s b c d w h.a h.s h.b h.c h.d)
  clear h
  unfold opV
  go_enter Tryz.func7, Tryz.ntmps7
  go_wp2_with fail
  refine Calls.mono (H.out _) ?_
  rintro e w1 ⟨rfl, b1⟩
  go_wp2
  go_ret
  have B0 : Below w.heap.size w (w.alloc (.cells #[.int .i64 8, .int .i64 on, .int .i64 a, .int .i64 b, .int .i64 c, .int .i64 d, .string s, .string t] 25)) := (Below.refl _ _).alloc (Nat.le_refl _) _
  exact ⟨rfl, B0.trans (b1.mono B0.size)⟩
set_option maxRecDepth 100000 in
theorem plain_9 (on a b c d : Int) (s t : ByteArray) (w : World) (h : OpOk a b c d s t) :
    Calls Tryz.prog 7 #[opV 9 on a b c d s t] w fun e w' => e = .returned (.bool true) ∧ Below w.heap.size w w' := by
  have H := hid (fun w => encodes_law s t w h.s h.t)
  clear h
  unfold opV
  go_enter Tryz.func7, Tryz.ntmps7
  go_wp2_with fail
  refine Calls.mono (H.out _) ?_
  rintro e w1 ⟨rfl, b1⟩
  go_wp2
  go_ret
  have B0 : Below w.heap.size w (w.alloc (.cells #[.int .i64 9, .int .i64 on, .int .i64 a, .int .i64 b, .int .i64 c, .int .i64 d, .string s, .string t] 25)) := (Below.refl _ _).alloc (Nat.le_refl _) _
  exact ⟨rfl, B0.trans (b1.mono B0.size)⟩
set_option maxRecDepth 100000 in
theorem plain_10 (on a b c d : Int) (s t : ByteArray) (w : World) (h : OpOk a b c d s t) :
    Calls Tryz.prog 7 #[opV 10 on a b c d s t] w fun e w' => e = .returned (.bool true) ∧ Below w.heap.size w w' := by
  have H := hid (fun w => decodes_law s t w h.s h.t)
  clear h
  unfold opV
  go_enter Tryz.func7, Tryz.ntmps7
  go_wp2_with fail
  refine Calls.mono (H.out _) ?_
  rintro e w1 ⟨rfl, b1⟩
  go_wp2
  go_ret
  have B0 : Below w.heap.size w (w.alloc (.cells #[.int .i64 10, .int .i64 on, .int .i64 a, .int .i64 b, .int .i64 c, .int .i64 d, .string s, .string t] 25)) := (Below.refl _ _).alloc (Nat.le_refl _) _
  exact ⟨rfl, B0.trans (b1.mono B0.size)⟩
set_option maxRecDepth 100000 in
theorem plain_other (kd on a b c d : Int) (s t : ByteArray) (w : World) (h : ¬ (1 ≤ kd ∧ kd ≤ 10)) :
    Calls Tryz.prog 7 #[opV kd on a b c d s t] w fun e w' => e = .returned (.bool true) ∧ Below w.heap.size w w' := by
  have h1 : (kd == 1) = false := beq_eq_false_iff_ne.2 (by omega)
  have h2 : (kd == 2) = false := beq_eq_false_iff_ne.2 (by omega)
  have h3 : (kd == 3) = false := beq_eq_false_iff_ne.2 (by omega)
  have h4 : (kd == 4) = false := beq_eq_false_iff_ne.2 (by omega)
  have h5 : (kd == 5) = false := beq_eq_false_iff_ne.2 (by omega)
  have h6 : (kd == 6) = false := beq_eq_false_iff_ne.2 (by omega)
  have h7 : (kd == 7) = false := beq_eq_false_iff_ne.2 (by omega)
  have h8 : (kd == 8) = false := beq_eq_false_iff_ne.2 (by omega)
  have h9 : (kd == 9) = false := beq_eq_false_iff_ne.2 (by omega)
  have h10 : (kd == 10) = false := beq_eq_false_iff_ne.2 (by omega)
  clear h
  unfold opV
  go_enter Tryz.func7, Tryz.ntmps7
  go_wp2
  go_ret
  exact ⟨rfl, (Below.refl w.heap.size w).alloc (Nat.le_refl _) _⟩
theorem plain_law (kd on a b c d : Int) (s t : ByteArray) (w : World) (h : OpOk a b c d s t) :
    Calls Tryz.prog 7 #[opV kd on a b c d s t] w fun e w' => e = .returned (.bool true) ∧ Below w.heap.size w w' := by
  by_cases h0 : 1 ≤ kd ∧ kd ≤ 10
  · have hc : kd = 1 ∨ kd = 2 ∨ kd = 3 ∨ kd = 4 ∨ kd = 5 ∨ kd = 6 ∨ kd = 7 ∨ kd = 8 ∨ kd = 9 ∨ kd = 10 := by omega
    clear h0
    rcases hc with rfl | rfl | rfl | rfl | rfl | rfl | rfl | rfl | rfl | rfl
    · exact plain_1 on a b c d s t w h
    · exact plain_2 on a b c d s t w h
    · exact plain_3 on a b c d s t w h
    · exact plain_4 on a b c d s t w h
    · exact plain_5 on a b c d s t w h
    · exact plain_6 on a b c d s t w h
    · exact plain_7 on a b c d s t w h
    · exact plain_8 on a b c d s t w h
    · exact plain_9 on a b c d s t w h
    · exact plain_10 on a b c d s t w h
  · exact plain_other kd on a b c d s t w h0
end Go.Proofs.YtnconbpneimjiaaGreat

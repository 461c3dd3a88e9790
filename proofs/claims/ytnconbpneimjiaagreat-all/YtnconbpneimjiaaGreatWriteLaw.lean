/-
  P8: the law Writes.
-/
import Derived.Test.YtnconbpneimjiaaGreatFileParse
namespace Go.Proofs.YtnconbpneimjiaaGreat
open Go.RowKit Go.PlainAid

set_option maxRecDepth 100000 in
set_option maxHeartbeats 800000 in
theorem writes_law (id : Int) (t c : ByteArray) (w : World) (_hi : (Lit.int .i64 id).wf = true) (ht : t.size ≤ maxLen) (hc : c.size ≤ maxLen) :
    Calls Tryz.prog 16 #[.int .i64 id, .string t, .string c] w fun e w' => e = .returned (.bool true) ∧ Below w.heap.size w w' := by
  have H1 := hid (write_file id t c w ht hc)
  have H2 := hid (fun w => refWrite_any id t c w ht hc)
  generalize wrAns id t c = a at *
  obtain ⟨a, n⟩ := a
  go_enter Tryz.func16, Tryz.ntmps16
  go_wp2_with fail
  refine Calls.mono H1.out ?_
  rintro e w1 ⟨rfl, b1⟩
  go_wp2_with fail
  refine Calls.mono (H2.out _) ?_
  rintro e w2 ⟨rfl, b2⟩
  go_wp2
  go_ret
  exact ⟨by simp, b1.trans (b2.mono b1.size)⟩
end Go.Proofs.YtnconbpneimjiaaGreat

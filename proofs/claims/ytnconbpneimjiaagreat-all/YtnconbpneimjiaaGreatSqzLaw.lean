/-
  P5: the law Squeezes.
-/
import Derived.Test.YtnconbpneimjiaaGreatRefSqz
namespace Go.Proofs.YtnconbpneimjiaaGreat
open Go.RowKit Go.PlainAid

theorem squeezes_law (t s : ByteArray) (w : World) (ht : t.size ≤ maxLen) (hs : s.size ≤ maxLen) :
    Calls Tryz.prog 13 #[.string t, .string s] w fun e w' => e = .returned (.bool true) ∧ Below w.heap.size w w' := by
  have H1 := hid (squeeze_any t s w ht hs)
  have H2 := hid (fun w => refSqueeze_any t s w ht hs)
  generalize sqAns t s = a at *
  obtain ⟨a, n⟩ := a
  go_enter Tryz.func13, Tryz.ntmps13
  go_wp2_with fail
  refine Calls.mono H1.out ?_
  rintro e w1 ⟨rfl, b1⟩
  go_wp2_with fail
  refine Calls.mono (H2.out _) ?_
  rintro e w2 ⟨rfl, b2⟩
  go_wp2
  go_ret
  exact ⟨by simp, b1.trans (b2.mono b1.size)⟩
end Go.Proofs.YtnconbpneimjiaaGreat

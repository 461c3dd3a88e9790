/-
  P11, P12: the laws Encodes, Decodes, Restored, Short.
-/
import Derived.Test.YtnconbpneimjiaaGreatEncProg
import Derived.Test.YtnconbpneimjiaaGreatRefEnc
import Derived.Test.YtnconbpneimjiaaGreatRefPlay
import Derived.Test.YtnconbpneimjiaaGreatKeepFile
namespace Go.Proofs.YtnconbpneimjiaaGreat
open Go.RowKit Go.PlainAid

set_option maxRecDepth 100000 in
set_option maxHeartbeats 800000 in
theorem encodes_law (f r : ByteArray) (w : World) (hf : f.size ≤ maxLen) (hr : r.size ≤ maxLen) :
    Calls Tryz.prog 19 #[.string f, .string r] w fun e w' => e = .returned (.bool true) ∧ Below w.heap.size w w' := by
  have H1 := hid (encode_any f r w hf hr)
  have H2 := hid (fun w => refEncode_any f r w hf hr)
  generalize enAns f r = a at *
  obtain ⟨a, n⟩ := a
  go_enter Tryz.func19, Tryz.ntmps19
  go_wp2_with fail
  refine Calls.mono H1.out ?_
  rintro e w1 ⟨rfl, b1⟩
  go_wp2_with fail
  refine Calls.mono (H2.out _) ?_
  rintro e w2 ⟨rfl, b2⟩
  go_wp2
  go_ret
  exact ⟨by simp, b1.trans (b2.mono b1.size)⟩
set_option maxRecDepth 100000 in
set_option maxHeartbeats 800000 in
theorem decodes_law (f g : ByteArray) (w : World) (hf : f.size ≤ maxLen) (hg : g.size ≤ maxLen) :
    Calls Tryz.prog 20 #[.string f, .string g] w fun e w' => e = .returned (.bool true) ∧ Below w.heap.size w w' := by
  have H1 := hid (decode_any f g w hf hg)
  have H2 := hid (fun w => refDecode_any f g w hf hg)
  generalize dcAns f g = a at *
  obtain ⟨a, n⟩ := a
  go_enter Tryz.func20, Tryz.ntmps20
  go_wp2_with fail
  refine Calls.mono H1.out ?_
  rintro e w1 ⟨rfl, b1⟩
  go_wp2_with fail
  refine Calls.mono (H2.out _) ?_
  rintro e w2 ⟨rfl, b2⟩
  go_wp2
  go_ret
  exact ⟨by simp, b1.trans (b2.mono b1.size)⟩

end Go.Proofs.YtnconbpneimjiaaGreat

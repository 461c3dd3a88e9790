/-
  P3: the walks of sums.Of, glossaryref.Sum, glossary.Sum.
-/
import Derived.Test.YtnconbpneimjiaaRows
import Derived.WalkKit
import Derived.WalkSpells
import Derived.Handy
import Derived.Test.YtnconbpneimjiaaPlainF
namespace Go.Proofs.Ytnconbpneimjiaa
open Go.RowKit Go.PlainAid

theorem ret_int {k : IntKind} {a b : Int} (h : a = b) : Ending.returned (.int k a) = .returned (.int k b) := by rw [h]

set_option maxHeartbeats 400000 in
theorem of_any (s : ByteArray) (w : World) (hs : s.size ≤ maxLen) :
    Calls Try.prog 32 #[.string s] w fun e w' => e = .returned (.int .i64 (sumTo s s.size)) ∧ w' = w := by
  unfold maxLen at hs
  have hb := get_bt s
  go_enter Try.func32, Try.ntmps32
  go_wp2
  go_loop [3, 4] (fun n i => ∃ k : Nat, k ≤ s.size ∧ i = .int .i64 k ∧ n = .int .i64 (sumTo s k)) (fun _ i => s.size - (intOf i).toNat)
  case atStart => exact ⟨0, Nat.zero_le _, rfl, rfl⟩
  case round =>
    obtain ⟨k, hk, rfl, rfl⟩ := hrel
    have hd := sumTo_bd s k
    have b0 := bt_nonneg s k
    have b1 := bt_le s k
    have hx := xor_bd (sumTo s k) (bt s k) hd.1 hd.2 b0 b1
    by_cases hlt : k < s.size
    · go_wp2
      go_round
      case rel => exact ⟨k + 1, by omega, by go_num, rfl⟩
      case measure => simp [intOf]; omega
    · go_wp2
      go_ret
      exact ⟨ret_int (by rw [show s.size = k from by omega]), rfl⟩

theorem step_ref (x : Int) : (x * 16777216 + x * 256 + x * 147) % 4294967296 = x * 16777619 % 4294967296 := by
  rw [show x * 16777216 + x * 256 + x * 147 = x * 16777619 from by omega]

end Go.Proofs.Ytnconbpneimjiaa

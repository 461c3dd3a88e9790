/-
  P5, P6: the walks of the document's share, digits, value.
-/
import Derived.Test.YtaofgdgfmdieeaaStrTab
import Derived.Test.YtaofgdgfmdieeaaTabRefWalks
import Derived.Test.YtaofgdgfmdieeaaPlain
namespace Go.Proofs.Ytaofgdgfmdieeaa
open Go.RowKit Go.PlainAid

set_option maxRecDepth 100000 in
set_option maxHeartbeats 400000 in
theorem refShare_any (t : ByteArray) (v : Nat) (w : World) (h : isTB t = true) :
    Calls Try.prog 69 #[.string t, .int .i64 v] w fun e w' => e = .returned (.int .i64 (tShr t v : Int)) ∧ w' = w := by
  obtain ⟨hev, hgood, htot⟩ := isTB_yes h
  have hlong : t.size ≤ 128 := by
    have := totS_ge hgood
    omega
  have hb := get_btn t
  have HG := hid hgood
  clear h hgood htot
  go_enter Try.func69, Try.ntmps69
  go_wp2
  go_loop [5] (fun i => ∃ k : Nat, 2 * k ≤ t.size ∧ i = .int .i64 (2 * (k : Int)) ∧ ∀ j, j < k → btn t (2 * j) ≠ v) (fun i => t.size - (intOf i).toNat)
  case atStart => exact ⟨0, Nat.zero_le _, rfl, fun j hj => by omega⟩
  case round =>
    obtain ⟨k, hk, rfl, hno⟩ := hrel
    have HN := hid hno
    clear hno
    have b1 := btn_lt t (2 * k)
    have b2 := btn_lt t (2 * k + 1)
    by_cases hlt : 2 * k + 1 < t.size
    · by_cases c : btn t (2 * k) = v
      · have c' : ((btn t (2 * k) : Int) == (v : Int)) = true := by simp [c]
        have HS := hid (show tShr t v = btn t (2 * k + 1) from by rw [← c]; exact shTab_hit HG.out (by omega))
        clear c
        go_wp2
        go_ret
        exact ⟨ret_int' (by rw [HS.out]), rfl⟩
      · have c' : ((btn t (2 * k) : Int) == (v : Int)) = false := by simp; omega
        have HC := hid c
        clear c
        go_wp2
        go_round
        case rel => exact ⟨k + 1, by omega, by go_num, fun j hj => by
          rcases Nat.lt_or_ge j k with d | d
          · exact HN.out j d
          · obtain rfl : j = k := by omega
            exact HC.out⟩
        case measure => simp [intOf]; omega
    · have HS := hid (show tShr t v = 0 from shTab_none (fun j hj => HN.out j (by omega)))
      go_wp2
      go_ret
      exact ⟨ret_int' (by rw [HS.out]; rfl), rfl⟩

theorem conv_one (w : World) (x : Int) : (convert 37 9 (.slice (some ⟨w.heap.size, 0, none⟩) 1 1)).run Try.prog (w.alloc (.cells #[.int .u8 x] 5)) = .ok (.string (strOfNums [x])) (w.alloc (.cells #[.int .u8 x] 5)) := by
  refine run_convert_bytes_arg _ 37 5 Try.underlying37 Try.underlying5 w.heap.size 0 1 1 [x] rfl (fun i hi => ?_) 9 Try.underlying9
  obtain rfl : i = 0 := by omega
  simp

set_option maxRecDepth 100000 in
set_option maxHeartbeats 400000 in
theorem digits_any (n k : Nat) (w : World) (hn : n < 4096) (hk : k ≤ 64) :
    Calls Try.prog 47 #[.int .i64 n, .int .i64 k] w fun e w' => e = .returned (.string (strOfNums (sgn (digB n k)))) ∧ Below w.heap.size w w' := by
  have hcv := conv_one
  go_enter Try.func47, Try.ntmps47
  go_wp2
  go_loopw [0, 5, 6] (fun m s i wr => ∃ j q : Nat, j ≤ k ∧ q < 4096 ∧ q = n / 2 ^ j ∧ m = .int .i64 q ∧ s = .string (strOfNums (sgn (digB n j))) ∧ i = .int .i64 j ∧ Below w.heap.size w wr) (fun _ _ i _ => k - (intOf i).toNat)
  case atStart => exact ⟨0, n, Nat.zero_le _, hn, by simp, rfl, rfl, rfl, Below.refl _ _⟩
  case round =>
    obtain ⟨j, q, hj, hq, hqn, rfl, rfl, rfl, hbel⟩ := hrel
    have HQ := hid hqn
    clear hqn
    have hsz := hbel.size
    have HL := hid (digB_len n j)
    by_cases hlt : j < k
    · have HD := hid (show digB n (j + 1) = n / 2 ^ j % 2 :: digB n j from rfl)
      have hlen : (strOfNums (sgn (digB n j))).size = j := by rw [strOfNums_size, sgn_len, digB_len]
      generalize digB n j = ds at *
      have hone : ∀ x, (strOfNums [x]).size = 1 := fun x => by rw [strOfNums_size]; rfl
      go_wp2
      go_roundw
      case rel =>
        refine ⟨j + 1, q / 2, by omega, by omega, by rw [HQ.out, Nat.pow_succ, Nat.div_div_eq_div_mul], by go_num, ?_, by go_num, hbel.alloc hsz _⟩
        rw [str_append, HD.out, ← HQ.out]
        simp [sgn]
      case measure => simp [intOf]; omega
    · have HJ := hid (show j = k from by omega)
      go_wp2
      go_ret
      exact ⟨congrArg (fun z => Ending.returned (.string (strOfNums (sgn (digB n z))))) HJ.out, hbel⟩
end Go.Proofs.Ytaofgdgfmdieeaa

/-
  P11, P12: the walks of counts.Write, counts.Read.
  P11: the walks of bodies.countSame, longest.
-/
import Derived.Test.YtnconbpneimjiaaFrmBack
import Derived.Test.YtnconbpneimjiaaFileParse
import Derived.BigQuiet
namespace Go.Proofs.Ytnconbpneimjiaa
open Go.RowKit Go.PlainAid

/-! ### P11, P12: the walks of counts.Write, counts.Read. -/
theorem ctB_one' {n : Nat} (h : n < 128) : ctB n = strOfNums [(n : Int)] := by
  rw [ctB_one h]
  show strOfNums (ints [n / 256 ^ 0 % 256]) = _
  simp [ints]
  congr 1
  simp
  omega
theorem ctB_two' {n : Nat} (h : ¬ n < 128) (h2 : n ≤ 16383) : ctB n = strOfNums [128 + (n : Int) % 128, (n : Int) / 128] := by
  rw [ctB_two h]
  show strOfNums (ints [(128 + n % 128 + 256 * (n / 128)) / 256 ^ 0 % 256, (128 + n % 128 + 256 * (n / 128)) / 256 ^ 1 % 256]) = _
  congr 1
  simp [ints]
  omega
theorem conv_lit1 (w : World) (a : Int) : (convert 29 9 (.slice (some ⟨w.heap.size, 0, none⟩) 1 1)).run Try.prog (w.alloc (.cells #[.int .u8 a] 5)) = .ok (.string (strOfNums [a])) (w.alloc (.cells #[.int .u8 a] 5)) := by
  refine run_convert_bytes_arg _ 29 5 Try.underlying29 Try.underlying5 w.heap.size 0 1 1 [a] rfl (fun i hi => ?_) 9 Try.underlying9
  match i, hi with
  | 0, _ => simp
theorem conv_lit2 (w : World) (a b : Int) : (convert 29 9 (.slice (some ⟨w.heap.size, 0, none⟩) 2 2)).run Try.prog (w.alloc (.cells #[.int .u8 a, .int .u8 b] 5)) = .ok (.string (strOfNums [a, b])) (w.alloc (.cells #[.int .u8 a, .int .u8 b] 5)) := by
  refine run_convert_bytes_arg _ 29 5 Try.underlying29 Try.underlying5 w.heap.size 0 2 2 [a, b] rfl (fun i hi => ?_) 9 Try.underlying9
  match i, hi with
  | 0, _ => simp
  | 1, _ => simp
theorem ret_str3 {a b : ByteArray} (h : a = b) : Ending.returned (.string a) = .returned (.string b) := by rw [h]

set_option maxRecDepth 100000 in
set_option maxHeartbeats 400000 in
theorem cwrite_any (n : Nat) (w : World) (hn : n ≤ 16383) :
    Calls Try.prog 65 #[.int .i64 n] w fun e w' => e = .returned (.string (ctB n)) ∧ Below w.heap.size w w' := by
  have d0 : decide ((n : Int) < 0) = false := by simp
  have d1 : decide ((16383 : Int) < (n : Int)) = false := by simp; omega
  by_cases c : n < 128
  · have HE := hid (ctB_one' c)
    have c' : (n : Int) < 128 := by omega
    have hc := conv_lit1 w (n : Int)
    go_enter Try.func65, Try.ntmps65
    go_wp2
    go_ret
    exact ⟨ret_str3 HE.out.symm, (Below.refl _ _).alloc (Nat.le_refl _) _⟩
  · have HE := hid (ctB_two' c hn)
    have c' : ¬ (n : Int) < 128 := by omega
    have hc := conv_lit2 w (128 + (n : Int) % 128) ((n : Int) / 128)
    go_enter Try.func65, Try.ntmps65
    go_wp2
    go_ret
    exact ⟨ret_str3 HE.out.symm, (Below.refl _ _).alloc (Nat.le_refl _) _⟩

/-- What counts.Read hands back. -/
def crV (q : Nat × Int) : Value := if q.2 < 0 then .tuple #[.int .i64 0, .int .i64 0, .bool false] else .tuple #[.int .i64 (q.1 : Int), .int .i64 q.2, .bool true]
theorem crV_no {q : Nat × Int} (h : q.2 < 0) : crV q = .tuple #[.int .i64 0, .int .i64 0, .bool false] := by unfold crV; rw [if_pos h]
theorem crV_yes {q : Nat × Int} (h : ¬ q.2 < 0) : crV q = .tuple #[.int .i64 (q.1 : Int), .int .i64 q.2, .bool true] := by unfold crV; rw [if_neg h]
theorem ret_v {a b : Value} (h : a = b) : Ending.returned a = .returned b := by rw [h]
theorem crV_at {q : Nat × Int} {a b : Int} (h : q = (a.toNat, b)) (h0 : 0 ≤ a) (h1 : 0 ≤ b) : .tuple #[.int .i64 a, .int .i64 b, .bool true] = crV q := by
  rw [h, crV_yes (by simp only; omega)]; simp only; rw [Int.toNat_of_nonneg h0]
theorem crV_none {q : Nat × Int} (h : q = (0, -1)) : .tuple #[.int .i64 0, .int .i64 0, .bool false] = crV q := by
  rw [h, crV_no (by simp only; omega)]

set_option maxRecDepth 100000 in
set_option maxHeartbeats 800000 in
theorem cread_any (s : ByteArray) (a : Int) (w : World) (hs : s.size ≤ 2000) (ha : a ≤ 2000) :
    Calls Try.prog 74 #[.string s, .int .i64 a] w fun e w' => e = .returned (crV (ctAt s a)) ∧ w' = w := by
  by_cases h0 : a < 0
  · have HE := hid (show ctAt s a = (0, -1) from by unfold ctAt; rw [if_pos (Or.inl h0)])
    have h0' : decide (a < 0) = true := by simp; omega
    go_enter Try.func74, Try.ntmps74
    go_wp2
    go_ret3
    exact ⟨ret_v (crV_none HE.out), rfl⟩
  · have h0' : decide (a < 0) = false := by simp; omega
    by_cases h1 : (s.size : Int) ≤ a
    · have HE := hid (show ctAt s a = (0, -1) from by unfold ctAt; rw [if_pos (Or.inr h1)])
      have h1' : decide ((s.size : Int) ≤ a) = true := by simp; omega
      go_enter Try.func74, Try.ntmps74
      go_wp2
      go_ret3
      exact ⟨ret_v (crV_none HE.out), rfl⟩
    · obtain ⟨p, rfl⟩ := Int.eq_ofNat_of_zero_le (show 0 ≤ a by omega)
      have hb := get_btn s
      have h1' : decide ((s.size : Int) ≤ (p : Int)) = false := by simp; omega
      have hps : p < s.size := by omega
      have hpi : (p : Int) < (s.size : Int) := by omega
      have b0 := btn_lt s p
      have b1 := btn_lt s (p + 1)
      have HC := hid (show ctAt s (p : Int) = if btn s p < 128 then (btn s p, (p : Int) + 1) else if s.size ≤ p + 1 ∨ btn s (p + 1) < 1 ∨ 127 < btn s (p + 1) then (0, -1) else (btn s p - 128 + 128 * btn s (p + 1), (p : Int) + 2) from by
        unfold ctAt; rw [if_neg (by omega), Int.toNat_natCast])
      by_cases c0 : btn s p < 128
      · rw [if_pos c0] at HC
        have c0' : (btn s p : Int) < 128 := by omega
        go_enter Try.func74, Try.ntmps74
        go_wp2
        go_ret3
        exact ⟨ret_v (crV_at (by rw [HC.out, Int.toNat_natCast]) (by omega) (by omega)), rfl⟩
      · rw [if_neg c0] at HC
        have c0' : ¬ (btn s p : Int) < 128 := by omega
        by_cases c1 : s.size ≤ p + 1
        · rw [if_pos (Or.inl c1)] at HC
          have c1' : (s.size : Int) - (p : Int) < 2 := by omega
          go_enter Try.func74, Try.ntmps74
          go_wp2
          go_ret3
          exact ⟨ret_v (crV_none HC.out), rfl⟩
        · have c1' : ¬ (s.size : Int) - (p : Int) < 2 := by omega
          have hp1 : p + 1 < s.size := by omega
          by_cases c2 : btn s (p + 1) < 1
          · rw [if_pos (Or.inr (Or.inl c2))] at HC
            have c2' : decide ((btn s (p + 1) : Int) < 1) = true := by simp; omega
            go_enter Try.func74, Try.ntmps74
            go_wp2
            go_ret3
            exact ⟨ret_v (crV_none HC.out), rfl⟩
          · have c2' : decide ((btn s (p + 1) : Int) < 1) = false := by simp; omega
            by_cases c3 : 127 < btn s (p + 1)
            · rw [if_pos (Or.inr (Or.inr c3))] at HC
              have c3' : decide ((128 : Int) ≤ (btn s (p + 1) : Int)) = true := by simp; omega
              go_enter Try.func74, Try.ntmps74
              go_wp2
              go_ret3
              exact ⟨ret_v (crV_none HC.out), rfl⟩
            · rw [if_neg (by omega)] at HC
              have c3' : decide ((128 : Int) ≤ (btn s (p + 1) : Int)) = false := by simp; omega
              go_enter Try.func74, Try.ntmps74
              go_wp2
              go_ret3
              exact ⟨ret_v (crV_at (by rw [HC.out]; refine Prod.ext ?_ rfl; simp only; omega) (by omega) (by omega)), rfl⟩

/-! ### P11: the walks of bodies.countSame, longest. -/
theorem ret_nn2 {a b c d : Int} (h1 : a = b) (h2 : c = d) : Ending.returned (.tuple #[.int .i64 a, .int .i64 c]) = .returned (.tuple #[.int .i64 b, .int .i64 d]) := by rw [h1, h2]
set_option maxRecDepth 100000 in
set_option maxHeartbeats 800000 in
theorem same_any (s : ByteArray) (p d : Nat) (w : World) (hs : s.size ≤ 2000) (hp : p < s.size) (hd1 : 1 ≤ d) (hd2 : d ≤ p) :
    Calls Try.prog 78 #[.string s, .int .i64 p, .int .i64 d] w fun e w' => e = .returned (.int .i64 (mlen s d p : Int)) ∧ ∃ n, w' = w.drewN n := by
  have hb := get_btn s
  have hml := mlen_le s d p
  have HSM := hid (fun i (h : i < mlen s d p) => mlen_same s d p i h)
  have HSP := hid (fun (h : p + mlen s d p < s.size) => mlen_stop s d p h)
  generalize mlen s d p = M at *
  have g1 : decide ((d : Int) < 1) = false := by simp; omega
  have g2 : decide ((p : Int) < (d : Int)) = false := by simp; omega
  go_enter Try.func78, Try.ntmps78
  go_wp2
  go_loopw [7] (fun v wi => ∃ j q : Nat, j ≤ M ∧ v = .int .i64 j ∧ wi = w.drewN q) (fun v _ => M - (intOf v).toNat)
  case atStart => exact ⟨0, 0, Nat.zero_le _, rfl, rfl⟩
  case round =>
    obtain ⟨j, q, hj, rfl, rfl⟩ := hrel
    by_cases hend : p + j < s.size
    · have hcnd : decide ((p : Int) + (j : Int) < (s.size : Int)) = true := by simp; omega
      have hi1 : (p : Int) + (j : Int) < (s.size : Int) := by omega
      have hi2 : (p : Int) + (j : Int) - (d : Int) < (s.size : Int) := by omega
      have hi3 : 0 ≤ (p : Int) + (j : Int) - (d : Int) := by omega
      have b1 := btn_lt s (p + j)
      have b2 := btn_lt s (p + j - d)
      by_cases hjM : j < M
      · have hq : ((btn s (p + j) : Int) == (btn s (p + j - d) : Int)) = true := by rw [HSM.out j hjM]; simp
        go_wp2_with fail
        go_quiet (fail)
        go_wp2
        go_roundw
        case rel => exact ⟨j + 1, q + nq, by omega, by go_num, rfl⟩
        case measure => simp [intOf]; omega
      · have HJ := hid (show j = M from by omega)
        have hq : ((btn s (p + j) : Int) == (btn s (p + j - d) : Int)) = false := by
          have := HSP.out (by rw [← HJ.out]; exact hend)
          rw [← HJ.out] at this
          exact beq_eq_false_iff_ne.2 (by omega)
        go_wp2_with fail
        go_quiet (fail)
        go_wp2
        go_ret
        exact ⟨ret_int (by rw [HJ.out]), q + nq, World.drewN_drewN _ _ _⟩
    · have HJ := hid (show j = M from by omega)
      have hcnd : decide ((p : Int) + (j : Int) < (s.size : Int)) = false := by simp; omega
      go_wp2_with fail
      go_quiet (fail)
      go_wp2
      go_ret
      exact ⟨ret_int (by rw [HJ.out]), q + nq, World.drewN_drewN _ _ _⟩

set_option maxRecDepth 100000 in
set_option maxHeartbeats 800000 in
theorem plongest_any (s : ByteArray) (p : Nat) (w : World) (hs : s.size ≤ 2000) (hp : p < s.size) :
    Calls Try.prog 71 #[.string s, .int .i64 p] w fun e w' => e = .returned (.tuple #[.int .i64 ((lgTo s p p).1 : Int), .int .i64 ((lgTo s p p).2 : Int)]) ∧ ∃ n, w' = w.drewN n := by
  have HSTEP := hid (fun d => show lgTo s p (d + 1) = if (lgTo s p d).1 < mlen s (d + 1) p then (mlen s (d + 1) p, d + 1) else lgTo s p d from rfl)
  have HLE := hid (fun d => lgTo_le s p d)
  have H0 := hid (show lgTo s p 0 = (0, 0) from rfl)
  have HC := hid (fun d (h : d < p) w => same_any s p (d + 1) w hs hp (by omega) (by omega))
  have HML := hid (fun d => mlen_le s d p)
  generalize lgTo s p = G at *
  go_enter Try.func71, Try.ntmps71
  go_wp2
  go_loopw [6, 7, 8, 9] (fun q r i _ wr => ∃ d m : Nat, d ≤ p ∧ i = .int .i64 ((d : Int) + 1) ∧ q = .int .i64 ((G d).1 : Int) ∧ r = .int .i64 ((G d).2 : Int) ∧ wr = w.drewN m) (fun _ _ i _ _ => p + 1 - (intOf i).toNat)
  case atStart => exact ⟨0, 0, Nat.zero_le _, rfl, by rw [H0.out]; rfl, by rw [H0.out]; rfl, rfl⟩
  case round =>
    obtain ⟨d, m, hd, rfl, rfl, rfl, rfl⟩ := hrel
    have hle := HLE.out d
    by_cases hlt : d < p
    · have hdp : decide ((d : Int) + 1 ≤ (p : Int)) = true := by simp; omega
      have HST := hid (HSTEP.out d)
      have hml := HML.out (d + 1)
      have hcall := hid (HC.out d hlt)
      rw [show ((d + 1 : Nat) : Int) = (d : Int) + 1 from by omega] at hcall
      generalize mlen s (d + 1) p = M at *
      generalize G d = fk at *
      obtain ⟨best, dist⟩ := fk
      simp only at hle HST ⊢
      by_cases c : best < M
      · rw [if_pos c] at HST
        have c' : (best : Int) < (M : Int) := by omega
        go_wp2_with (go_at_call 78; refine Calls.mono (hcall.out _) ?_; rintro e w' ⟨rfl, nq, rfl⟩)
        go_roundw
        case rel => exact ⟨d + 1, m + nq, by omega, by go_num, by rw [HST.out], by rw [HST.out]; go_num, rfl⟩
        case measure => simp [intOf]; omega
      · rw [if_neg c] at HST
        have c' : ¬ (best : Int) < (M : Int) := by omega
        go_wp2_with (go_at_call 78; refine Calls.mono (hcall.out _) ?_; rintro e w' ⟨rfl, nq, rfl⟩)
        go_roundw
        case rel => exact ⟨d + 1, m + nq, by omega, by go_num, by rw [HST.out], by rw [HST.out], rfl⟩
        case measure => simp [intOf]; omega
    · have HD := hid (show d = p from by omega)
      have hdp : decide ((d : Int) + 1 ≤ (p : Int)) = false := by simp; omega
      go_wp2
      go_ret2
      exact ⟨ret_nn2 (by rw [HD.out]) (by rw [HD.out]), m, rfl⟩
end Go.Proofs.Ytnconbpneimjiaa

/-
  P7: the law Covers.
-/
import Derived.Test.YtnconbpneimjiaaGreatCovErr
import Derived.Test.YtnconbpneimjiaaGreatCovRefC
namespace Go.Proofs.YtnconbpneimjiaaGreat
open Go.RowKit Go.PlainAid

set_option maxRecDepth 100000 in
set_option maxHeartbeats 800000 in
theorem refCover_any (s : ByteArray) (k d B : Int) (w : World) (_hs : s.size ≤ maxLen) :
    Calls Tryz.prog 42 #[.string s, .int .i64 k, .int .i64 d, .int .i64 B] w fun e w' => e = .returned (.tuple #[.string (covAns s k d B).1, .int .i64 (covAns s k d B).2]) ∧ Below w.heap.size w w' := by
  by_cases c0 : 800 < s.size
  · have c0' : (800 : Int) < (s.size : Int) := by omega
    have HA := hid (covErr_long (k := k) (d := d) (B := B) c0)
    unfold maxLen at _hs
    have HB := hid (covAns_no (s := s) (k := k) (d := d) (B := B) (by rw [HA.out]; simp))
    rw [HA.out] at HB
    rw [HB.out]
    go_enter Tryz.func42, Tryz.ntmps42
    go_wp2
    go_ret2
    exact ⟨rfl, Below.refl _ _⟩
  · have c0' : ¬ (800 : Int) < (s.size : Int) := by omega
    by_cases c1 : d < 1
    · have HA := hid (covErr_par (k := k) (d := d) (B := B) c0 (by omega))
      have c1' : decide (d < 1) = true := by simp; omega
      have HB := hid (covAns_no (s := s) (k := k) (d := d) (B := B) (by rw [HA.out]; simp))
      rw [HA.out] at HB
      rw [HB.out]
      go_enter Tryz.func42, Tryz.ntmps42
      go_wp2
      go_ret2
      exact ⟨rfl, Below.refl _ _⟩
    · have c1' : decide (d < 1) = false := by simp; omega
      by_cases c2 : k < d
      · have HA := hid (covErr_par (k := k) (d := d) (B := B) c0 (by omega))
        have c2' : decide (k < d) = true := by simp; omega
        have HB := hid (covAns_no (s := s) (k := k) (d := d) (B := B) (by rw [HA.out]; simp))
        rw [HA.out] at HB
        rw [HB.out]
        go_enter Tryz.func42, Tryz.ntmps42
        go_wp2
        go_ret2
        exact ⟨rfl, Below.refl _ _⟩
      · have c2' : decide (k < d) = false := by simp; omega
        by_cases c3 : B < k
        · have HA := hid (covErr_par (k := k) (d := d) (B := B) c0 (by omega))
          have c3' : decide (B < k) = true := by simp; omega
          have HB := hid (covAns_no (s := s) (k := k) (d := d) (B := B) (by rw [HA.out]; simp))
          rw [HA.out] at HB
          rw [HB.out]
          go_enter Tryz.func42, Tryz.ntmps42
          go_wp2
          go_ret2
          exact ⟨rfl, Below.refl _ _⟩
        · have c3' : decide (B < k) = false := by simp; omega
          by_cases c4 : 500 < B
          · have HA := hid (covErr_par (k := k) (d := d) (B := B) c0 (by omega))
            have c4' : decide (500 < B) = true := by simp; omega
            have HB := hid (covAns_no (s := s) (k := k) (d := d) (B := B) (by rw [HA.out]; simp))
            rw [HA.out] at HB
            rw [HB.out]
            go_enter Tryz.func42, Tryz.ntmps42
            go_wp2
            go_ret2
            exact ⟨rfl, Below.refl _ _⟩
          · have c4' : decide (500 < B) = false := by simp; omega
            by_cases c5 : (s.size : Int) < k
            · have HA := hid (covErr_par (k := k) (d := d) (B := B) c0 (by omega))
              have c5' : decide ((s.size : Int) < k) = true := by simp; omega
              have HB := hid (covAns_no (s := s) (k := k) (d := d) (B := B) (by rw [HA.out]; simp))
              rw [HA.out] at HB
              rw [HB.out]
              go_enter Tryz.func42, Tryz.ntmps42
              go_wp2
              go_ret2
              exact ⟨rfl, Below.refl _ _⟩
            · have c5' : decide ((s.size : Int) < k) = false := by simp; omega
              have HA := covErr_ok (s := s) (k := k) (d := d) (B := B) c0 (by omega)
              rw [covAns_yes HA]
              obtain ⟨k', rfl⟩ := Int.eq_ofNat_of_zero_le (show 0 ≤ k by omega)
              obtain ⟨d', rfl⟩ := Int.eq_ofNat_of_zero_le (show 0 ≤ d by omega)
              obtain ⟨B', rfl⟩ := Int.eq_ofNat_of_zero_le (show 0 ≤ B by omega)
              simp only [Int.toNat_natCast]
              exact refCoverOk s k' d' B' w (by omega) (by omega) (by omega) (by omega) (by omega) (by omega)

set_option maxRecDepth 100000 in
set_option maxHeartbeats 800000 in
theorem covers_law (s : ByteArray) (k d B : Int) (w : World) (hs : s.size ≤ maxLen) (_hk : (Lit.int .i64 k).wf = true) (_hd : (Lit.int .i64 d).wf = true) (_hB : (Lit.int .i64 B).wf = true) :
    Calls Tryz.prog 15 #[.string s, .int .i64 k, .int .i64 d, .int .i64 B] w fun e w' => e = .returned (.bool true) ∧ Below w.heap.size w w' := by
  have H1 := hid (cover_any s k d B w hs)
  have H2 := hid (fun w => refCover_any s k d B w hs)
  generalize covAns s k d B = a at *
  obtain ⟨a, n⟩ := a
  go_enter Tryz.func15, Tryz.ntmps15
  go_wp2_with fail
  refine Calls.mono H1.out ?_
  rintro e w1 ⟨rfl, b1⟩
  go_wp2_with fail
  refine Calls.mono (H2.out _) ?_
  rintro e w2 ⟨rfl, b2⟩
  go_wp2
  go_ret
  exact ⟨by simp, b1.trans (b2.mono b1.size)⟩
end Go.Proofs.YtnconbpneimjiaaGreat

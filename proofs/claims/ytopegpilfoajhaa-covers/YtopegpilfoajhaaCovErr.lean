/-
  P7: the walks of coverErrno and Cover.
-/
import Derived.Test.YtopegpilfoajhaaCovMake
namespace Go.Proofs.Ytopegpilfoajhaa
open Go.RowKit Go.PlainAid

theorem covErr_long {s : ByteArray} {k d B : Int} (h : 800 < s.size) : covErr s k d B = 1 := by unfold covErr; rw [if_pos h]
theorem covErr_par {s : ByteArray} {k d B : Int} (h : ¬ 800 < s.size) (h2 : d < 1 ∨ k < d ∨ B < k ∨ 500 < B ∨ (s.size : Int) < k) : covErr s k d B = 2 := by unfold covErr; rw [if_neg h, if_pos h2]
theorem covErr_ok {s : ByteArray} {k d B : Int} (h : ¬ 800 < s.size) (h2 : ¬ (d < 1 ∨ k < d ∨ B < k ∨ 500 < B ∨ (s.size : Int) < k)) : covErr s k d B = 0 := by unfold covErr; rw [if_neg h, if_neg h2]

set_option maxHeartbeats 800000 in
theorem coverErrno_any (s : ByteArray) (k d B : Int) (w : World) (_hs : s.size ≤ maxLen) :
    Calls Try.prog 49 #[.string s, .int .i64 k, .int .i64 d, .int .i64 B] w fun e w' => e = .returned (.int .i64 (covErr s k d B)) ∧ w' = w := by
  by_cases c0 : 800 < s.size
  · have c0' : (800 : Int) < (s.size : Int) := by omega
    have HA := hid (covErr_long (k := k) (d := d) (B := B) c0)
    unfold maxLen at _hs
    go_enter Try.func49, Try.ntmps49
    go_wp2
    go_ret
    exact ⟨ret_int HA.out.symm, rfl⟩
  · have c0' : ¬ (800 : Int) < (s.size : Int) := by omega
    by_cases c1 : d < 1
    · have HA := hid (covErr_par (k := k) (d := d) (B := B) c0 (by omega))
      have c1' : decide (d < 1) = true := by simp; omega
      go_enter Try.func49, Try.ntmps49
      go_wp2
      go_ret
      exact ⟨ret_int HA.out.symm, rfl⟩
    · have c1' : decide (d < 1) = false := by simp; omega
      by_cases c2 : k < d
      · have HA := hid (covErr_par (k := k) (d := d) (B := B) c0 (by omega))
        have c2' : decide (k < d) = true := by simp; omega
        go_enter Try.func49, Try.ntmps49
        go_wp2
        go_ret
        exact ⟨ret_int HA.out.symm, rfl⟩
      · have c2' : decide (k < d) = false := by simp; omega
        by_cases c3 : B < k
        · have HA := hid (covErr_par (k := k) (d := d) (B := B) c0 (by omega))
          have c3' : decide (B < k) = true := by simp; omega
          go_enter Try.func49, Try.ntmps49
          go_wp2
          go_ret
          exact ⟨ret_int HA.out.symm, rfl⟩
        · have c3' : decide (B < k) = false := by simp; omega
          by_cases c4 : 500 < B
          · have HA := hid (covErr_par (k := k) (d := d) (B := B) c0 (by omega))
            have c4' : decide (500 < B) = true := by simp; omega
            go_enter Try.func49, Try.ntmps49
            go_wp2
            go_ret
            exact ⟨ret_int HA.out.symm, rfl⟩
          · have c4' : decide (500 < B) = false := by simp; omega
            by_cases c5 : (s.size : Int) < k
            · have HA := hid (covErr_par (k := k) (d := d) (B := B) c0 (by omega))
              have c5' : decide ((s.size : Int) < k) = true := by simp; omega
              go_enter Try.func49, Try.ntmps49
              go_wp2
              go_ret
              exact ⟨ret_int HA.out.symm, rfl⟩
            · have c5' : decide ((s.size : Int) < k) = false := by simp; omega
              have HA := hid (covErr_ok (k := k) (d := d) (B := B) c0 (by omega))
              go_enter Try.func49, Try.ntmps49
              go_wp2
              go_ret
              exact ⟨ret_int HA.out.symm, rfl⟩

theorem covAns_no {s : ByteArray} {k d B : Int} (h : covErr s k d B ≠ 0) : covAns s k d B = (⟨#[]⟩, covErr s k d B) := by unfold covAns; rw [if_neg h]
theorem covAns_yes {s : ByteArray} {k d B : Int} (h : covErr s k d B = 0) : covAns s k d B = (cov s k.toNat d.toNat B.toNat, 0) := by unfold covAns; rw [if_pos h]
theorem covErr_zero {s : ByteArray} {k d B : Int} (h : covErr s k d B = 0) : s.size ≤ 800 ∧ 1 ≤ d ∧ d ≤ k ∧ k ≤ B ∧ B ≤ 500 ∧ k ≤ (s.size : Int) := by
  unfold covErr at h
  split at h
  · simp at h
  · split at h
    · simp at h
    · omega
/-- Make, with numbers as they come. -/
theorem make_int (s : ByteArray) (k d B : Int) (w : World) (h : covErr s k d B = 0) :
    Calls Try.prog 50 #[.string s, .int .i64 k, .int .i64 d, .int .i64 B] w fun e w' => e = .returned (.string (cov s k.toNat d.toNat B.toNat)) ∧ Below w.heap.size w w' := by
  obtain ⟨h1, h2, h3, h4, h5, h6⟩ := covErr_zero h
  obtain ⟨k', rfl⟩ := Int.eq_ofNat_of_zero_le (show 0 ≤ k by omega)
  obtain ⟨d', rfl⟩ := Int.eq_ofNat_of_zero_le (show 0 ≤ d by omega)
  obtain ⟨B', rfl⟩ := Int.eq_ofNat_of_zero_le (show 0 ≤ B by omega)
  simp only [Int.toNat_natCast]
  exact make_any s k' d' B' w h1 (by omega) (by omega) (by omega) (by omega) (by omega)

set_option maxRecDepth 100000 in
set_option maxHeartbeats 800000 in
theorem cover_any (s : ByteArray) (k d B : Int) (w : World) (hs : s.size ≤ maxLen) :
    Calls Try.prog 26 #[.string s, .int .i64 k, .int .i64 d, .int .i64 B] w fun e w' => e = .returned (.tuple #[.string (covAns s k d B).1, .int .i64 (covAns s k d B).2]) ∧ Below w.heap.size w w' := by
  have HE := hid (coverErrno_any s k d B w hs)
  by_cases h : covErr s k d B = 0
  · have HM := hid (make_int s k d B w h)
    have HA := hid (covAns_yes h)
    rw [HA.out]
    rw [h] at HE
    generalize cov s k.toNat d.toNat B.toNat = CV at *
    clear h HA
    go_enter Try.func26, Try.ntmps26
    go_wp2_with fail
    refine Calls.mono HE.out ?_
    rintro e w1 ⟨rfl, k1⟩
    rw [k1]
    clear k1 w1
    go_wp2_with fail
    refine Calls.mono HM.out ?_
    rintro e w2 ⟨rfl, b2⟩
    go_wp2
    go_ret2
    exact ⟨rfl, b2⟩
  · have HA := hid (covAns_no h)
    rw [HA.out]
    have h' : (covErr s k d B != 0) = true := by simp [h]
    generalize covErr s k d B = E at *
    clear h
    go_enter Try.func26, Try.ntmps26
    go_wp2_with fail
    refine Calls.mono HE.out ?_
    rintro e w1 ⟨rfl, k1⟩
    rw [k1]
    clear k1 w1
    go_wp2
    go_ret2
    exact ⟨rfl, Below.refl _ _⟩
end Go.Proofs.Ytopegpilfoajhaa

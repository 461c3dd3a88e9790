/-
  P5, P6: the law Canon.
-/
import Derived.Test.YtopegpilfoajhaaUsCases
namespace Go.Proofs.Ytopegpilfoajhaa
open Go.RowKit Go.PlainAid

theorem us_one : usAns ⟨#[97, 64]⟩ ⟨#[2]⟩ 0 = (⟨#[]⟩, 0) := by decide +kernel
theorem us_two : usAns ⟨#[97, 32, 98, 32]⟩ ⟨#[22, 128]⟩ 2 = (⟨#[97, 98]⟩, 0) := by decide +kernel
set_option maxRecDepth 100000 in
set_option maxHeartbeats 800000 in
theorem canon_law (t s : ByteArray) (n : Int) (w : World) (ht : t.size ≤ maxLen) (hs : s.size ≤ maxLen) (_hn : (Lit.int .i64 n).wf = true) :
    Calls Try.prog 8 #[.string t, .string s, .int .i64 n] w fun e w' => e = .returned (.bool true) ∧ Below w.heap.size w w' := by
  have H1 := hid (unsqueeze_any ⟨#[97, 64]⟩ ⟨#[2]⟩ 0 w (by decide +kernel) (by decide +kernel))
  have H2 := hid (fun w => unsqueeze_any ⟨#[97, 32, 98, 32]⟩ ⟨#[22, 128]⟩ 2 w (by decide +kernel) (by decide +kernel))
  rw [us_one] at H1
  rw [us_two] at H2
  have H3 := hid (fun w => unsqueeze_any t s n w ht hs)
  have hc := us_cases t s n
  have H4 := hid (fun (h : (usAns t s n).1.size ≤ 500) w => squeeze_any t (usAns t s n).1 w ht (by unfold maxLen; omega))
  generalize usAns t s n = a at *
  obtain ⟨a, m⟩ := a
  simp only at hc H3 H4
  rcases hc with ⟨h1, h2⟩ | ⟨h1, h2, h3, h4, h5⟩
  · subst h2
    have hm : (m != 0) = true := by simp [h1]
    clear h1 H4
    go_enter Try.func8, Try.ntmps8
    go_wp2_with fail
    refine Calls.mono H1.out ?_
    rintro e w1 ⟨rfl, b1⟩
    go_wp2_with fail
    refine Calls.mono (H2.out _) ?_
    rintro e w2 ⟨rfl, b2⟩
    go_wp2_with fail
    refine Calls.mono (H3.out _) ?_
    rintro e w3 ⟨rfl, b3⟩
    go_wp2
    go_ret
    exact ⟨by simp, (b1.trans (b2.mono b1.size)).trans (b3.mono (Nat.le_trans b1.size b2.size))⟩
  · have HS := hid h2
    subst h1
    have H5 := hid (H4.out h5)
    rw [HS.out] at H5
    have h3' : (0 : Int) < (s.size : Int) := by omega
    have h4' : ((a.size : Int) == n) = true := by simp [h4]
    have hm : ((0 : Int) != 0) = false := rfl
    clear h2 HS H4 h4 h3
    go_enter Try.func8, Try.ntmps8
    go_wp2_with fail
    refine Calls.mono H1.out ?_
    rintro e w1 ⟨rfl, b1⟩
    go_wp2_with fail
    refine Calls.mono (H2.out _) ?_
    rintro e w2 ⟨rfl, b2⟩
    go_wp2_with fail
    refine Calls.mono (H3.out _) ?_
    rintro e w3 ⟨rfl, b3⟩
    go_wp2_with fail
    refine Calls.mono (H5.out _) ?_
    rintro e w4 ⟨rfl, b4⟩
    go_wp2
    go_ret
    exact ⟨by simp, ((b1.trans (b2.mono b1.size)).trans (b3.mono (Nat.le_trans b1.size b2.size))).trans (b4.mono (Nat.le_trans (Nat.le_trans b1.size b2.size) b3.size))⟩
end Go.Proofs.Ytopegpilfoajhaa

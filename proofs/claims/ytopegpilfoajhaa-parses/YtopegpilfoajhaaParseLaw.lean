/-
  P8, P9: the laws Parses and Reread.
-/
import Derived.Test.YtopegpilfoajhaaFileParse
namespace Go.Proofs.Ytopegpilfoajhaa
open Go.RowKit Go.PlainAid

set_option maxRecDepth 100000 in
set_option maxHeartbeats 800000 in
theorem parses_law (f : ByteArray) (w : World) (hf : f.size ≤ maxLen) :
    Calls Try.prog 11 #[.string f] w fun e w' => e = .returned (.bool true) ∧ Below w.heap.size w w' := by
  have H1 := hid (parse_any f w hf)
  have H2 := hid (fun w => refParse_any f w hf)
  generalize pAns f = a at *
  obtain ⟨i, t, c, n⟩ := a
  simp only [parV] at H1 H2
  go_enter Try.func11, Try.ntmps11
  go_wp2_with fail
  refine Calls.mono H1.out ?_
  rintro e w1 ⟨rfl, b1⟩
  go_wp2_with fail
  refine Calls.mono (H2.out _) ?_
  rintro e w2 ⟨rfl, b2⟩
  go_wp2
  go_ret
  exact ⟨by simp, b1.trans (b2.mono b1.size)⟩

/-! ### Reread -/
theorem rr_tab : isTB ⟨#[97, 64]⟩ = true := by decide +kernel
theorem rr_wr : wrAns 258 ⟨#[97, 64]⟩ ⟨#[120, 121]⟩ = (wFile 258 ⟨#[97, 64]⟩ ⟨#[120, 121]⟩, 0) := wrAns_ok (by decide) (by decide) rr_tab
theorem rr_size : (wFile 258 ⟨#[97, 64]⟩ ⟨#[120, 121]⟩).size = 16 := by rw [wFile_size]; rfl
theorem rr_par : pAns (wFile 258 ⟨#[97, 64]⟩ ⟨#[120, 121]⟩) = (258, ⟨#[97, 64]⟩, ⟨#[120, 121]⟩, 0) := by
  obtain ⟨h1, h2, h3, h4⟩ := file_read (id := 258) (t := ⟨#[97, 64]⟩) (c := ⟨#[120, 121]⟩) (by decide) rr_tab (by decide) (by decide)
  have e1 := wFile_tab 258 ⟨#[97, 64]⟩ ⟨#[120, 121]⟩
  have e2 := wFile_con 258 ⟨#[97, 64]⟩ ⟨#[120, 121]⟩
  rw [pAns_yes h1, h2, h3, h4, e1]
  rw [show 6 + (⟨#[97, 64]⟩ : ByteArray).size + 2 = 8 + (⟨#[97, 64]⟩ : ByteArray).size from rfl, e2]
  rfl
set_option maxRecDepth 100000 in
set_option maxHeartbeats 1600000 in
theorem reread_law (f : ByteArray) (w : World) (hf : f.size ≤ maxLen) :
    Calls Try.prog 14 #[.string f] w fun e w' => e = .returned (.bool true) ∧ Below w.heap.size w w' := by
  have H1 := hid (write_file 258 ⟨#[97, 64]⟩ ⟨#[120, 121]⟩ w (by decide +kernel) (by decide +kernel))
  have H2 := hid (fun w => parse_any (wFile 258 ⟨#[97, 64]⟩ ⟨#[120, 121]⟩) w (by rw [rr_size]; decide +kernel))
  rw [rr_wr] at H1
  rw [rr_par] at H2
  have H3 := hid (fun w => parse_any f w hf)
  have h16 : ((wFile 258 ⟨#[97, 64]⟩ ⟨#[120, 121]⟩).size : Int) = 16 := by rw [rr_size]; rfl
  generalize wFile 258 ⟨#[97, 64]⟩ ⟨#[120, 121]⟩ = F at *
  have hc := par_cases f
  have H4 := hid (fun (h1 : (pAns f).2.1.size ≤ maxLen) (h2 : (pAns f).2.2.1.size ≤ maxLen) w => write_file (pAns f).1 (pAns f).2.1 (pAns f).2.2.1 w h1 h2)
  generalize pAns f = a at *
  obtain ⟨i, t, c, n⟩ := a
  simp only [parV] at hc H1 H2 H3 H4
  unfold maxLen at hf
  rcases hc with h | ⟨h1, h2, h3, h4, h5⟩
  · obtain ⟨rfl, rfl, rfl, rfl⟩ : i = 0 ∧ t = ⟨#[]⟩ ∧ c = ⟨#[]⟩ ∧ n = 6 := by simpa using h
    clear H4 h
    go_enter Try.func14, Try.ntmps14
    go_wp2_with fail
    refine Calls.mono H1.out ?_
    rintro e w1 ⟨rfl, b1⟩
    go_wp2_with fail
    refine Calls.mono (H2.out _) ?_
    rintro e w2 ⟨rfl, b2⟩
    go_wp2_with fail
    refine Calls.mono (H3.out _) ?_
    rintro e w3 ⟨rfl, b3⟩
    go_wp2
    go_ret
    exact ⟨by simp, (b1.trans (b2.mono b1.size)).trans (b3.mono (Nat.le_trans b1.size b2.size))⟩
  · subst h1
    have H5 := hid (H4.out h4 h5)
    rw [h2] at H5
    have h3' : (12 : Int) < (f.size : Int) := by omega
    clear H4 h2 h3 h4 h5
    go_enter Try.func14, Try.ntmps14
    go_wp2_with fail
    refine Calls.mono H1.out ?_
    rintro e w1 ⟨rfl, b1⟩
    go_wp2_with fail
    refine Calls.mono (H2.out _) ?_
    rintro e w2 ⟨rfl, b2⟩
    go_wp2_with fail
    refine Calls.mono (H3.out _) ?_
    rintro e w3 ⟨rfl, b3⟩
    go_wp2_with fail
    refine Calls.mono (H5.out _) ?_
    rintro e w4 ⟨rfl, b4⟩
    go_wp2
    go_ret
    have B2 := b1.trans (b2.mono b1.size)
    have B3 := B2.trans (b3.mono B2.size)
    exact ⟨by simp, B3.trans (b4.mono B3.size)⟩
end Go.Proofs.Ytopegpilfoajhaa

/-
  P8, P9: the laws Parses and Reread.
-/
import Derived.Test.YtnconbpneimjiaaGreatFileParse
namespace Go.Proofs.YtnconbpneimjiaaGreat
open Go.RowKit Go.PlainAid

set_option maxRecDepth 100000 in
set_option maxHeartbeats 800000 in
theorem parses_law (f : ByteArray) (w : World) (hf : f.size ≤ maxLen) :
    Calls Tryz.prog 17 #[.string f] w fun e w' => e = .returned (.bool true) ∧ Below w.heap.size w w' := by
  have H1 := hid (parse_any f w hf)
  have H2 := hid (fun w => refParse_any f w hf)
  generalize pAns f = a at *
  obtain ⟨i, t, c, n⟩ := a
  simp only [parV] at H1 H2
  go_enter Tryz.func17, Tryz.ntmps17
  go_wp2_with fail
  refine Calls.mono H1.out ?_
  rintro e w1 ⟨rfl, b1⟩
  go_wp2_with fail
  refine Calls.mono (H2.out _) ?_
  rintro e w2 ⟨rfl, b2⟩
  go_wp2
  go_ret
  exact ⟨by simp, b1.trans (b2.mono b1.size)⟩

/-! ### Reread -/
theorem rr_tab : isTB ⟨#[97, 64]⟩ = true := by decide +kernel
theorem rr_wr : wrAns 258 ⟨#[97, 64]⟩ ⟨#[120, 121]⟩ = (wFile 258 ⟨#[97, 64]⟩ ⟨#[120, 121]⟩, 0) := wrAns_ok (by decide) (by decide) rr_tab
theorem rr_size : (wFile 258 ⟨#[97, 64]⟩ ⟨#[120, 121]⟩).size = 16 := by rw [wFile_size]; rfl
theorem rr_par : pAns (wFile 258 ⟨#[97, 64]⟩ ⟨#[120, 121]⟩) = (258, ⟨#[97, 64]⟩, ⟨#[120, 121]⟩, 0) := by
  obtain ⟨h1, h2, h3, h4⟩ := file_read (id := 258) (t := ⟨#[97, 64]⟩) (c := ⟨#[120, 121]⟩) (by decide) rr_tab (by decide) (by decide)
  have e1 := wFile_tab 258 ⟨#[97, 64]⟩ ⟨#[120, 121]⟩
  have e2 := wFile_con 258 ⟨#[97, 64]⟩ ⟨#[120, 121]⟩
  rw [pAns_yes h1, h2, h3, h4, e1]
  rw [show 6 + (⟨#[97, 64]⟩ : ByteArray).size + 2 = 8 + (⟨#[97, 64]⟩ : ByteArray).size from rfl, e2]
  rfl
end Go.Proofs.YtnconbpneimjiaaGreat

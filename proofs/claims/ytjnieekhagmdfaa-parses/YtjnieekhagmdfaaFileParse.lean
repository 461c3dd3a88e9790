/-
  P9: the walks of Parse, the laws Parses and Reread.
-/
import Derived.Test.YtjnieekhagmdfaaFileRead
namespace Go.Proofs.Ytjnieekhagmdfaa
open Go.RowKit Go.PlainAid

/-- What Parse hands back. -/
def parV (a : Int × ByteArray × ByteArray × Int) : Value := .tuple #[.int .i64 a.1, .string a.2.1, .string a.2.2.1, .int .i64 a.2.2.2]
theorem ret_par {a b : Int × ByteArray × ByteArray × Int} (h : a = b) : Ending.returned (parV a) = .returned (parV b) := by rw [h]
theorem fileV_is (i : Int) (t c : ByteArray) : fileV i t c = .agg (arrOf 3 (fRow i t c)) := rfl

set_option maxRecDepth 100000 in
set_option maxHeartbeats 1600000 in
theorem parse_any (f : ByteArray) (w : World) (hf : f.size ≤ maxLen) :
    Calls Try.prog 30 #[.string f] w fun e w' => e = .returned (parV (pAns f)) ∧ Below w.heap.size w w' := by
  have HR := hid (fileRead_any f w hf)
  by_cases h : pOk f
  · rw [pAns_yes h] at HR ⊢
    simp only [decide_true] at HR
    generalize (num f 3 2 : Int) = I at *
    generalize f.extract 6 (pT f) = T at *
    generalize f.extract (pT f + 2) (pE f) = C at *
    clear h
    go_enter Try.func30, Try.ntmps30
    go_wp2_with fail
    refine Calls.mono HR.out ?_
    rintro e w1 ⟨rfl, b1⟩
    have hq := fRow_new w1
    go_wp2_with (refine wpList_store_rowIs rfl 82 (.tmp 6) (.tmp 11) rfl w1.heap.size rfl 82 3 (fRow 0 ⟨#[]⟩ ⟨#[]⟩) (fRow I T C) hq rfl sizeFile (fun i _ => fRow_one _ _ _ i) ?_; intro w5 q5 b5 o5 s5)
    have c0 : w5.cell? ⟨w1.heap.size, 0, none⟩ = some (.int .i64 I) := World.rowIs.cell q5 (i := 0) (by omega)
    have c1 : w5.cell? ⟨w1.heap.size, 1, none⟩ = some (.string T) := World.rowIs.cell q5 (i := 1) (by omega)
    have c2 : w5.cell? ⟨w1.heap.size, 2, none⟩ = some (.string C) := World.rowIs.cell q5 (i := 2) (by omega)
    go_quiet (fail)
    go_wp2
    refine bodyPost_ret (v := parV (I, T, C, 0)) ?_ rfl ⟨rfl, ?_⟩
    · simp [results, Try.results30, parV]
    · exact Below.drewN ((b1.alloc b1.size _).trans (b5.mono b1.size)) _
  · rw [pAns_no h] at HR ⊢
    have hd : decide ((6 : Int) = 0) = false := rfl
    simp only [hd] at HR
    clear h hd
    go_enter Try.func30, Try.ntmps30
    go_wp2_with fail
    refine Calls.mono HR.out ?_
    rintro e w1 ⟨rfl, b1⟩
    have hq := fRow_new w1
    go_wp2_with (refine wpList_store_rowIs rfl 82 (.tmp 6) (.tmp 11) rfl w1.heap.size rfl 82 3 (fRow 0 ⟨#[]⟩ ⟨#[]⟩) (fRow 0 ⟨#[]⟩ ⟨#[]⟩) hq rfl sizeFile (fun i _ => fRow_one _ _ _ i) ?_; intro w5 q5 b5 o5 s5)
    refine bodyPost_ret (v := parV (0, ⟨#[]⟩, ⟨#[]⟩, 6)) ?_ rfl ⟨rfl, ?_⟩
    · simp [results, Try.results30, parV]
    · exact (b1.alloc b1.size _).trans (b5.mono b1.size)

set_option maxRecDepth 100000 in
set_option maxHeartbeats 1600000 in
theorem refParse_any (f : ByteArray) (w : World) (hf : f.size ≤ maxLen) :
    Calls Try.prog 31 #[.string f] w fun e w' => e = .returned (parV (pAns f)) ∧ Below w.heap.size w w' := by
  have hT : pT f = 6 + 2 * btn f 5 := rfl
  have hE : pE f = pT f + 2 + pL f := rfl
  by_cases h12 : f.size < 12
  · have HA := hid (pAns_no (f := f) (fun h => by have := pOk_big h; omega))
    have d0 : (f.size : Int) < 12 := by omega
    rw [HA.out]
    clear hT hE
    go_enter Try.func31, Try.ntmps31
    go_wp2
    refine bodyPost_ret (v := parV (0, ⟨#[]⟩, ⟨#[]⟩, 6)) ?_ rfl ⟨rfl, Below.refl _ _⟩
    simp [results, Try.results31, parV]
  · have d0 : decide ((f.size : Int) < 12) = false := by simp; omega
    have hb := get_btn f
    have hp1 := btn_lt f 5
    by_cases hcut : f.size - 4 < 6 + 2 * btn f 5 + 2
    · have HA := hid (pAns_no (f := f) (fun h => by have := pOk_big h; omega))
      have d1 : (f.size : Int) - 4 < 6 + 2 * (btn f 5 : Int) + 2 := by omega
      rw [HA.out]
      unfold maxLen at hf
      clear hT hE hcut
      go_enter Try.func31, Try.ntmps31
      go_wp2
      refine bodyPost_ret (v := parV (0, ⟨#[]⟩, ⟨#[]⟩, 6)) ?_ rfl ⟨rfl, Below.refl _ _⟩
      simp [results, Try.results31, parV]
    · have d1 : decide ((f.size : Int) - 4 < 6 + 2 * (btn f 5 : Int) + 2) = false := by simp; omega
      have HIFF := hid (parse_iff (f := f) (by omega) (by omega))
      have HN := hid (fun w => refNumber_any f 3 2 w hf (by omega) (by omega))
      have HW := hid (fun w => refWrite_any (num f 3 2 : Int) (f.extract 6 (pT f)) (f.extract (pT f + 2) (f.size - 4)) w (by rw [ext_size _ _ _ (by omega)]; omega) (by rw [ext_size _ _ _ (by omega)]; omega))
      have HY := hid (fun h : pOk f => show pE f = f.size - 4 from by have := h.2.2.2.2.2.1; omega)
      rw [show pT f = 6 + 2 * btn f 5 from rfl] at HW HIFF
      have HPY := hid (fun h : pOk f => pAns_yes h)
      have HPN := hid (fun h : ¬ pOk f => pAns_no h)
      unfold maxLen at hf
      have hn2 := num_lt f 3 2
      generalize num f 3 2 = N2 at *
      have i1 : 6 + 2 * (btn f 5 : Int) + 2 ≤ (f.size : Int) - 4 := by omega
      clear hT hE
      by_cases h : pOk f
      · have e := HIFF.out.1 h
        rw [e] at HW
        have HP := hid (HPY.out h)
        rw [HY.out h, show pT f = 6 + 2 * btn f 5 from rfl] at HP
        have hself : (f.toList == f.toList) = true := by simp
        clear e HIFF HY HPY HPN
        go_enter Try.func31, Try.ntmps31
        go_wp2_with fail
        refine Calls.mono (HN.out _) ?_
        rintro e w1 ⟨rfl, k1⟩
        rw [k1]
        clear k1 w1
        go_wp2_with fail
        refine Calls.mono (HW.out _) ?_
        rintro e w2 ⟨rfl, b2⟩
        go_wp2
        refine bodyPost_ret (v := parV ((N2 : Int), f.extract 6 (6 + 2 * btn f 5), f.extract (6 + 2 * btn f 5 + 2) (f.size - 4), 0)) ?_ rfl ⟨ret_par HP.out.symm, b2⟩
        simp [results, Try.results31, parV]
      · have e := fun q => h (HIFF.out.2 q)
        have HP := hid (HPN.out h)
        clear HIFF HY HPY HPN h
        generalize wrAns _ _ _ = a at *
        obtain ⟨a, n⟩ := a
        by_cases hn : n = 0
        · subst hn
          have hne : (a.toList == f.toList) = false := by rw [text_beq]; simp; intro q; exact e (by rw [q])
          clear e
          go_enter Try.func31, Try.ntmps31
          go_wp2_with fail
          refine Calls.mono (HN.out _) ?_
          rintro e w1 ⟨rfl, k1⟩
          rw [k1]
          clear k1 w1
          go_wp2_with fail
          refine Calls.mono (HW.out _) ?_
          rintro e w2 ⟨rfl, b2⟩
          go_wp2
          refine bodyPost_ret (v := parV (0, ⟨#[]⟩, ⟨#[]⟩, 6)) ?_ rfl ⟨ret_par HP.out.symm, b2⟩
          simp [results, Try.results31, parV]
        · have hn' : (n != 0) = true := by simp [hn]
          clear e hn
          go_enter Try.func31, Try.ntmps31
          go_wp2_with fail
          refine Calls.mono (HN.out _) ?_
          rintro e w1 ⟨rfl, k1⟩
          rw [k1]
          clear k1 w1
          go_wp2_with fail
          refine Calls.mono (HW.out _) ?_
          rintro e w2 ⟨rfl, b2⟩
          go_wp2
          refine bodyPost_ret (v := parV (0, ⟨#[]⟩, ⟨#[]⟩, 6)) ?_ rfl ⟨ret_par HP.out.symm, b2⟩
          simp [results, Try.results31, parV]

set_option maxRecDepth 100000 in
set_option maxHeartbeats 800000 in
theorem parses_law (f : ByteArray) (w : World) (hf : f.size ≤ maxLen) :
    Calls Try.prog 11 #[.string f] w fun e w' => e = .returned (.bool true) ∧ Below w.heap.size w w' := by
  have H1 := hid (parse_any f w hf)
  have H2 := hid (fun w => refParse_any f w hf)
  generalize pAns f = a at *
  obtain ⟨i, t, c, n⟩ := a
  simp only [parV] at H1 H2
  go_enter Try.func11, Try.ntmps11
  go_wp2_with fail
  refine Calls.mono H1.out ?_
  rintro e w1 ⟨rfl, b1⟩
  go_wp2_with fail
  refine Calls.mono (H2.out _) ?_
  rintro e w2 ⟨rfl, b2⟩
  go_wp2
  go_ret
  exact ⟨by simp, b1.trans (b2.mono b1.size)⟩

/-! ### Reread -/
theorem rr_tab : isTB ⟨#[97, 64]⟩ = true := by decide +kernel
theorem rr_wr : wrAns 258 ⟨#[97, 64]⟩ ⟨#[120, 121]⟩ = (wFile 258 ⟨#[97, 64]⟩ ⟨#[120, 121]⟩, 0) := wrAns_ok (by decide) (by decide) rr_tab
theorem rr_size : (wFile 258 ⟨#[97, 64]⟩ ⟨#[120, 121]⟩).size = 16 := by rw [wFile_size]; rfl
theorem rr_par : pAns (wFile 258 ⟨#[97, 64]⟩ ⟨#[120, 121]⟩) = (258, ⟨#[97, 64]⟩, ⟨#[120, 121]⟩, 0) := by
  obtain ⟨h1, h2, h3, h4⟩ := file_read (id := 258) (t := ⟨#[97, 64]⟩) (c := ⟨#[120, 121]⟩) (by decide) rr_tab (by decide) (by decide)
  have e1 := wFile_tab 258 ⟨#[97, 64]⟩ ⟨#[120, 121]⟩
  have e2 := wFile_con 258 ⟨#[97, 64]⟩ ⟨#[120, 121]⟩
  rw [pAns_yes h1, h2, h3, h4, e1]
  rw [show 6 + (⟨#[97, 64]⟩ : ByteArray).size + 2 = 8 + (⟨#[97, 64]⟩ : ByteArray).size from rfl, e2]
  rfl
theorem par_cases (f : ByteArray) : (pAns f = (0, ⟨#[]⟩, ⟨#[]⟩, 6)) ∨ ((pAns f).2.2.2 = 0 ∧ wrAns (pAns f).1 (pAns f).2.1 (pAns f).2.2.1 = (f, 0) ∧ 12 < f.size ∧ (pAns f).2.1.size ≤ maxLen ∧ (pAns f).2.2.1.size ≤ maxLen) := by
  by_cases h : pOk f
  · right
    have hb := pOk_big h
    have e := (parse_iff hb.2 (by omega)).1 h
    have h6 := h.2.2.2.2.2.1
    have hE : pE f = pT f + 2 + pL f := rfl
    have h5 := h.2.2.2.2.1
    have hp := btn_lt f 5
    have hT : pT f = 6 + 2 * btn f 5 := rfl
    rw [pAns_yes h]
    rw [show f.size - 4 = pE f from by omega] at e
    refine ⟨rfl, e, by omega, ?_, ?_⟩
    · show (f.extract 6 (pT f)).size ≤ maxLen
      rw [ext_size _ _ _ (by omega)]; unfold maxLen; omega
    · show (f.extract (pT f + 2) (pE f)).size ≤ maxLen
      rw [ext_size _ _ _ (by omega)]; unfold maxLen; omega
  · left; exact pAns_no h

set_option maxRecDepth 100000 in
set_option maxHeartbeats 1600000 in
theorem reread_law (f : ByteArray) (w : World) (hf : f.size ≤ maxLen) :
    Calls Try.prog 14 #[.string f] w fun e w' => e = .returned (.bool true) ∧ Below w.heap.size w w' := by
  have H1 := hid (write_file 258 ⟨#[97, 64]⟩ ⟨#[120, 121]⟩ w (by decide +kernel) (by decide +kernel))
  have H2 := hid (fun w => parse_any (wFile 258 ⟨#[97, 64]⟩ ⟨#[120, 121]⟩) w (by rw [rr_size]; decide +kernel))
  rw [rr_wr] at H1
  rw [rr_par] at H2
  have H3 := hid (fun w => parse_any f w hf)
  have h16 : ((wFile 258 ⟨#[97, 64]⟩ ⟨#[120, 121]⟩).size : Int) = 16 := by rw [rr_size]; rfl
  generalize wFile 258 ⟨#[97, 64]⟩ ⟨#[120, 121]⟩ = F at *
  have hc := par_cases f
  have H4 := hid (fun (h1 : (pAns f).2.1.size ≤ maxLen) (h2 : (pAns f).2.2.1.size ≤ maxLen) w => write_file (pAns f).1 (pAns f).2.1 (pAns f).2.2.1 w h1 h2)
  generalize pAns f = a at *
  obtain ⟨i, t, c, n⟩ := a
  simp only [parV] at hc H1 H2 H3 H4
  unfold maxLen at hf
  rcases hc with h | ⟨h1, h2, h3, h4, h5⟩
  · obtain ⟨rfl, rfl, rfl, rfl⟩ : i = 0 ∧ t = ⟨#[]⟩ ∧ c = ⟨#[]⟩ ∧ n = 6 := by simpa using h
    clear H4 h
    go_enter Try.func14, Try.ntmps14
    go_wp2_with fail
    refine Calls.mono H1.out ?_
    rintro e w1 ⟨rfl, b1⟩
    go_wp2_with fail
    refine Calls.mono (H2.out _) ?_
    rintro e w2 ⟨rfl, b2⟩
    go_wp2_with fail
    refine Calls.mono (H3.out _) ?_
    rintro e w3 ⟨rfl, b3⟩
    go_wp2
    go_ret
    exact ⟨by simp, (b1.trans (b2.mono b1.size)).trans (b3.mono (Nat.le_trans b1.size b2.size))⟩
  · subst h1
    have H5 := hid (H4.out h4 h5)
    rw [h2] at H5
    have h3' : (12 : Int) < (f.size : Int) := by omega
    clear H4 h2 h3 h4 h5
    go_enter Try.func14, Try.ntmps14
    go_wp2_with fail
    refine Calls.mono H1.out ?_
    rintro e w1 ⟨rfl, b1⟩
    go_wp2_with fail
    refine Calls.mono (H2.out _) ?_
    rintro e w2 ⟨rfl, b2⟩
    go_wp2_with fail
    refine Calls.mono (H3.out _) ?_
    rintro e w3 ⟨rfl, b3⟩
    go_wp2_with fail
    refine Calls.mono (H5.out _) ?_
    rintro e w4 ⟨rfl, b4⟩
    go_wp2
    go_ret
    have B2 := b1.trans (b2.mono b1.size)
    have B3 := B2.trans (b3.mono B2.size)
    exact ⟨by simp, B3.trans (b4.mono B3.size)⟩
end Go.Proofs.Ytjnieekhagmdfaa

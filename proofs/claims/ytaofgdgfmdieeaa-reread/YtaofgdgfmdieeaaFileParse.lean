/-
  P9: the walks of Parse.
-/
import Derived.Test.YtaofgdgfmdieeaaFileRead
namespace Go.Proofs.Ytaofgdgfmdieeaa
open Go.RowKit Go.PlainAid

/-- What Parse hands back. -/
def parV (a : Int × ByteArray × ByteArray × Int) : Value := .tuple #[.int .i64 a.1, .string a.2.1, .string a.2.2.1, .int .i64 a.2.2.2]
theorem ret_par {a b : Int × ByteArray × ByteArray × Int} (h : a = b) : Ending.returned (parV a) = .returned (parV b) := by rw [h]
theorem fileV_is (i : Int) (t c : ByteArray) (s : Int) : fileV i t c s = .agg (arrOf 4 (fRow i t c s)) := rfl

set_option maxRecDepth 100000 in
set_option maxHeartbeats 1600000 in
theorem parse_any (f : ByteArray) (w : World) (hf : f.size ≤ maxLen) :
    Calls Try.prog 30 #[.string f] w fun e w' => e = .returned (parV (pAns f)) ∧ Below w.heap.size w w' := by
  have HR := hid (fileRead_any f w hf)
  by_cases h : pOk f
  · rw [fSum_yes h, pAns_yes h] at HR
    rw [pAns_yes h]
    generalize ((wSum (f.extract 0 (pE f)) : Nat) : Int) = S at *
    simp only [decide_true] at HR
    generalize (num f 3 2 : Int) = I at *
    generalize f.extract 6 (pT f) = T at *
    generalize f.extract (pT f + 2) (pE f) = C at *
    clear h
    go_enter Try.func30, Try.ntmps30
    go_wp2_with fail
    refine Calls.mono HR.out ?_
    rintro e w1 ⟨rfl, b1⟩
    have hq := fRow_new w1
    go_wp2_with (refine wpList_store_rowIs rfl 82 (.tmp 6) (.tmp 11) rfl w1.heap.size rfl 82 4 (fRow 0 ⟨#[]⟩ ⟨#[]⟩ 0) (fRow I T C S) hq rfl sizeFile (fun i _ => fRow_one _ _ _ _ i) ?_; intro w5 q5 b5 o5 s5)
    have c0 : w5.cell? ⟨w1.heap.size, 0, none⟩ = some (.int .i64 I) := World.rowIs.cell q5 (i := 0) (by omega)
    have c1 : w5.cell? ⟨w1.heap.size, 1, none⟩ = some (.string T) := World.rowIs.cell q5 (i := 1) (by omega)
    have c2 : w5.cell? ⟨w1.heap.size, 2, none⟩ = some (.string C) := World.rowIs.cell q5 (i := 2) (by omega)
    go_quiet (fail)
    go_wp2
    refine bodyPost_ret (v := parV (I, T, C, 0)) ?_ rfl ⟨rfl, ?_⟩
    · simp [results, Try.results30, parV]
    · exact Below.drewN ((b1.alloc b1.size _).trans (b5.mono b1.size)) _
  · rw [fSum_no h, pAns_no h] at HR
    rw [pAns_no h]
    have hd : decide ((6 : Int) = 0) = false := rfl
    simp only [hd] at HR
    clear h hd
    go_enter Try.func30, Try.ntmps30
    go_wp2_with fail
    refine Calls.mono HR.out ?_
    rintro e w1 ⟨rfl, b1⟩
    have hq := fRow_new w1
    go_wp2_with (refine wpList_store_rowIs rfl 82 (.tmp 6) (.tmp 11) rfl w1.heap.size rfl 82 4 (fRow 0 ⟨#[]⟩ ⟨#[]⟩ 0) (fRow 0 ⟨#[]⟩ ⟨#[]⟩ 0) hq rfl sizeFile (fun i _ => fRow_one _ _ _ _ i) ?_; intro w5 q5 b5 o5 s5)
    refine bodyPost_ret (v := parV (0, ⟨#[]⟩, ⟨#[]⟩, 6)) ?_ rfl ⟨rfl, ?_⟩
    · simp [results, Try.results30, parV]
    · exact (b1.alloc b1.size _).trans (b5.mono b1.size)

set_option maxRecDepth 100000 in
set_option maxHeartbeats 1600000 in
theorem refParse_any (f : ByteArray) (w : World) (hf : f.size ≤ maxLen) :
    Calls Try.prog 31 #[.string f] w fun e w' => e = .returned (parV (pAns f)) ∧ Below w.heap.size w w' := by
  have hT : pT f = 6 + 2 * btn f 5 := rfl
  have hE : pE f = pT f + 2 + pL f := rfl
  by_cases h12 : f.size < 12
  · have HA := hid (pAns_no (f := f) (fun h => by have := pOk_big h; omega))
    have d0 : (f.size : Int) < 12 := by omega
    rw [HA.out]
    clear hT hE
    go_enter Try.func31, Try.ntmps31
    go_wp2
    refine bodyPost_ret (v := parV (0, ⟨#[]⟩, ⟨#[]⟩, 6)) ?_ rfl ⟨rfl, Below.refl _ _⟩
    simp [results, Try.results31, parV]
  · have d0 : decide ((f.size : Int) < 12) = false := by simp; omega
    have hb := get_btn f
    have hp1 := btn_lt f 5
    by_cases hcut : f.size - 4 < 6 + 2 * btn f 5 + 2
    · have HA := hid (pAns_no (f := f) (fun h => by have := pOk_big h; omega))
      have d1 : (f.size : Int) - 4 < 6 + 2 * (btn f 5 : Int) + 2 := by omega
      rw [HA.out]
      unfold maxLen at hf
      clear hT hE hcut
      go_enter Try.func31, Try.ntmps31
      go_wp2
      refine bodyPost_ret (v := parV (0, ⟨#[]⟩, ⟨#[]⟩, 6)) ?_ rfl ⟨rfl, Below.refl _ _⟩
      simp [results, Try.results31, parV]
    · have d1 : decide ((f.size : Int) - 4 < 6 + 2 * (btn f 5 : Int) + 2) = false := by simp; omega
      have HIFF := hid (parse_iff (f := f) (by omega) (by omega))
      have HN := hid (fun w => refNumber_any f 3 2 w hf (by omega) (by omega))
      have HW := hid (fun w => refWrite_any (num f 3 2 : Int) (f.extract 6 (pT f)) (f.extract (pT f + 2) (f.size - 4)) w (by rw [ext_size _ _ _ (by omega)]; omega) (by rw [ext_size _ _ _ (by omega)]; omega))
      have HY := hid (fun h : pOk f => show pE f = f.size - 4 from by have := h.2.2.2.2.2.1; omega)
      rw [show pT f = 6 + 2 * btn f 5 from rfl] at HW HIFF
      have HPY := hid (fun h : pOk f => pAns_yes h)
      have HPN := hid (fun h : ¬ pOk f => pAns_no h)
      unfold maxLen at hf
      have hn2 := num_lt f 3 2
      generalize num f 3 2 = N2 at *
      have i1 : 6 + 2 * (btn f 5 : Int) + 2 ≤ (f.size : Int) - 4 := by omega
      clear hT hE
      by_cases h : pOk f
      · have e := HIFF.out.1 h
        rw [e] at HW
        have HP := hid (HPY.out h)
        rw [HY.out h, show pT f = 6 + 2 * btn f 5 from rfl] at HP
        have hself : (f.toList == f.toList) = true := by simp
        clear e HIFF HY HPY HPN
        go_enter Try.func31, Try.ntmps31
        go_wp2_with fail
        refine Calls.mono (HN.out _) ?_
        rintro e w1 ⟨rfl, k1⟩
        rw [k1]
        clear k1 w1
        go_wp2_with fail
        refine Calls.mono (HW.out _) ?_
        rintro e w2 ⟨rfl, b2⟩
        go_wp2
        refine bodyPost_ret (v := parV ((N2 : Int), f.extract 6 (6 + 2 * btn f 5), f.extract (6 + 2 * btn f 5 + 2) (f.size - 4), 0)) ?_ rfl ⟨ret_par HP.out.symm, b2⟩
        simp [results, Try.results31, parV]
      · have e := fun q => h (HIFF.out.2 q)
        have HP := hid (HPN.out h)
        clear HIFF HY HPY HPN h
        generalize wrAns _ _ _ = a at *
        obtain ⟨a, n⟩ := a
        by_cases hn : n = 0
        · subst hn
          have hne : (a.toList == f.toList) = false := by rw [text_beq]; simp; intro q; exact e (by rw [q])
          clear e
          go_enter Try.func31, Try.ntmps31
          go_wp2_with fail
          refine Calls.mono (HN.out _) ?_
          rintro e w1 ⟨rfl, k1⟩
          rw [k1]
          clear k1 w1
          go_wp2_with fail
          refine Calls.mono (HW.out _) ?_
          rintro e w2 ⟨rfl, b2⟩
          go_wp2
          refine bodyPost_ret (v := parV (0, ⟨#[]⟩, ⟨#[]⟩, 6)) ?_ rfl ⟨ret_par HP.out.symm, b2⟩
          simp [results, Try.results31, parV]
        · have hn' : (n != 0) = true := by simp [hn]
          clear e hn
          go_enter Try.func31, Try.ntmps31
          go_wp2_with fail
          refine Calls.mono (HN.out _) ?_
          rintro e w1 ⟨rfl, k1⟩
          rw [k1]
          clear k1 w1
          go_wp2_with fail
          refine Calls.mono (HW.out _) ?_
          rintro e w2 ⟨rfl, b2⟩
          go_wp2
          refine bodyPost_ret (v := parV (0, ⟨#[]⟩, ⟨#[]⟩, 6)) ?_ rfl ⟨ret_par HP.out.symm, b2⟩
          simp [results, Try.results31, parV]

theorem par_cases (f : ByteArray) : (pAns f = (0, ⟨#[]⟩, ⟨#[]⟩, 6)) ∨ ((pAns f).2.2.2 = 0 ∧ wrAns (pAns f).1 (pAns f).2.1 (pAns f).2.2.1 = (f, 0) ∧ 12 < f.size ∧ (pAns f).2.1.size ≤ maxLen ∧ (pAns f).2.2.1.size ≤ maxLen) := by
  by_cases h : pOk f
  · right
    have hb := pOk_big h
    have e := (parse_iff hb.2 (by omega)).1 h
    have h6 := h.2.2.2.2.2.1
    have hE : pE f = pT f + 2 + pL f := rfl
    have h5 := h.2.2.2.2.1
    have hp := btn_lt f 5
    have hT : pT f = 6 + 2 * btn f 5 := rfl
    rw [pAns_yes h]
    rw [show f.size - 4 = pE f from by omega] at e
    refine ⟨rfl, e, by omega, ?_, ?_⟩
    · show (f.extract 6 (pT f)).size ≤ maxLen
      rw [ext_size _ _ _ (by omega)]; unfold maxLen; omega
    · show (f.extract (pT f + 2) (pE f)).size ≤ maxLen
      rw [ext_size _ _ _ (by omega)]; unfold maxLen; omega
  · left; exact pAns_no h
end Go.Proofs.Ytaofgdgfmdieeaa

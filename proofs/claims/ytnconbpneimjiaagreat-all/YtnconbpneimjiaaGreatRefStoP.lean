/-
  P13 to P15: the walks of the document's New, Plant, Put, Get.
-/
import Derived.Test.YtnconbpneimjiaaGreatRefStoR
import Derived.Test.YtnconbpneimjiaaGreatRefEnc
import Derived.Test.YtnconbpneimjiaaGreatRefPlay
namespace Go.Proofs.YtnconbpneimjiaaGreat
open Go.RowKit Go.PlainAid

theorem RSt.made (w : World) (room : Int) : RSt (w.alloc (.cells #[.int .i64 room, .slice none 0 0] 51)) w.heap.size (w.heap.size + 1) (.slice none 0 0) room [] :=
  ⟨World.rowIs_alloc w #[.int .i64 room, .slice none 0 0] 51 (sRow room (.slice none 0 0)) (fun i hi => by
    have hi' : i < 2 := hi
    match i, hi' with
    | 0, _ => rfl
    | 1, _ => rfl), World.ownsRow_nil _ _ _ _⟩
set_option maxRecDepth 100000 in
theorem stoNew_no (room : Int) (w : World) (h : room < 1 ∨ 8 < room) :
    Calls Tryz.prog 5 #[.int .i64 room] w fun e w' => e = .returned (.tuple #[.pointer none, .int .i64 2]) ∧ w' = w := by
  by_cases h1 : room < 1
  · have h1' : decide (room < 1) = true := by simp; omega
    go_enter Tryz.func5, Tryz.ntmps5
    go_wp2
    go_ret2
    exact ⟨rfl, rfl⟩
  · have h1' : decide (room < 1) = false := by simp; omega
    have h2' : decide (8 < room) = true := by simp; omega
    go_enter Tryz.func5, Tryz.ntmps5
    go_wp2
    go_ret2
    exact ⟨rfl, rfl⟩
set_option maxRecDepth 100000 in
theorem stoNew_ok (room : Int) (w : World) (h : ¬ (room < 1 ∨ 8 < room)) :
    Calls Tryz.prog 5 #[.int .i64 room] w fun e w' => e = .returned (.tuple #[.pointer (some ⟨w.heap.size, 0, none⟩), .int .i64 0]) ∧ RSt w' w.heap.size (w.heap.size + 1) (.slice none 0 0) room [] ∧ Below w.heap.size w w' ∧ w'.heap.size = w.heap.size + 1 := by
  have h1' : decide (room < 1) = false := by simp; omega
  have h2' : decide (8 < room) = false := by simp; omega
  go_enter Tryz.func5, Tryz.ntmps5
  go_wp2
  go_ret2
  exact ⟨rfl, RSt.made w room, (Below.refl _ _).alloc (Nat.le_refl _) _, by simp⟩

/-- May it be a key? -/
def keyB (ky : ByteArray) : Bool := decide (1 ≤ ky.size ∧ ky.size ≤ 8)
set_option maxRecDepth 100000 in
set_option maxHeartbeats 800000 in
theorem stoPlant_any (b B : Nat) (v : Value) (room : Int) (l : List Ev) (ky fr : ByteArray) (w : World) (h : RSt w b B v room l) (hb : b < B) (hB : B ≤ w.heap.size) (hl : l.length < 2900000000000) (hk : ky.size ≤ maxLen) (hf : fr.size ≤ maxLen) :
    Calls Tryz.prog 28 #[.pointer (some ⟨b, 0, none⟩), .string ky, .string fr] w fun e w' => e = .returned (.int .i64 (plntAns l ky fr).1) ∧ ∃ v', RSt w' b B v' room (plntAns l ky fr).2 ∧ Chg b v w w' ∧ Lies w v v' := by
  obtain ⟨i1, gi, gz0, gz1, gz2⟩ := info_parts Tryz.infoEvent
  have c1 := h.c1
  unfold maxLen at hk hf
  by_cases h1 : ky.size < 1
  · have HA := hid (show plntAns l ky fr = (12, l) from by unfold plntAns; rw [if_pos (Or.inl h1)])
    have h1' : decide ((ky.size : Int) < 1) = true := by simp; omega
    rw [HA.out]
    go_enter Tryz.func28, Tryz.ntmps28
    go_wp2
    go_ret
    exact ⟨rfl, v, h, Chg.refl _ _ _, .inl rfl⟩
  · have h1' : decide ((ky.size : Int) < 1) = false := by simp; omega
    by_cases h2 : 8 < ky.size
    · have HA := hid (show plntAns l ky fr = (12, l) from by unfold plntAns; rw [if_pos (Or.inr h2)])
      have h2' : decide ((8 : Int) < (ky.size : Int)) = true := by simp; omega
      rw [HA.out]
      go_enter Tryz.func28, Tryz.ntmps28
      go_wp2
      go_ret
      exact ⟨rfl, v, h, Chg.refl _ _ _, .inl rfl⟩
    · have h2' : decide ((8 : Int) < (ky.size : Int)) = false := by simp; omega
      by_cases h3 : 1000 < fr.size
      · have HA := hid (show plntAns l ky fr = (1, l) from by unfold plntAns; rw [if_neg (by omega), if_pos h3])
        have h3' : (1000 : Int) < (fr.size : Int) := by omega
        rw [HA.out]
        go_enter Tryz.func28, Tryz.ntmps28
        go_wp2
        go_ret
        exact ⟨rfl, v, h, Chg.refl _ _ _, .inl rfl⟩
      · have HA := hid (show plntAns l ky fr = (0, l ++ [⟨3, 0, ky, fr⟩]) from by unfold plntAns; rw [if_neg (by omega), if_neg h3])
        have h3' : ¬ (1000 : Int) < (fr.size : Int) := by omega
        rw [HA.out]
        go_enter Tryz.func28, Tryz.ntmps28
        go_wp2_with (at_builtin; refine wpList_append_own_at _ rfl (.tmp 22) (.tmp 26) 49 rfl B 95 i1 (.agg #[.int .i64 0, .int .i64 0, .string ⟨#[]⟩, .string ⟨#[]⟩]) 4 48 Tryz.underlying49 gi gz0 gz1 gz2 rfl (by decide) _ _ _ rfl (h.log.alloc _) ⟨_, 0, none⟩ 1 1 [.int .i64 3, .int .i64 0, .string ky, .string fr] rfl rfl (cell_four_new _ _ _ _ _ _) (by intro u hu; simp at hu; rcases hu with rfl | rfl | rfl | rfl <;> rfl) (by unfold maxLen; omega) (by omega) (by simp; omega) ?_; intro v' w4 hown' hgrow _ hat; have m4 := hid (h.mid hb hgrow); have k4 := World.rowIs.cell m4.out (i := 1) (by omega); have f4 := World.rowIs.frozen m4.out 1; have R4 := hid (h.push (e := ⟨3, 0, ky, fr⟩) hb hgrow hown'); have C4 := hid (chg_push (b := b) (v' := v') hgrow); have L4 := hid (lies_at hat); obtain ⟨g4, cap4, rfl⟩ := own_frm4 hown' (by omega); clear hown' hat)
        go_ret
        exact ⟨rfl, _, R4.out, C4.out, L4.out⟩

set_option maxRecDepth 100000 in
set_option maxHeartbeats 1600000 in
theorem stoPut_any (b B : Nat) (v : Value) (room : Int) (l : List Ev) (ky r : ByteArray) (id : Int) (w : World) (h : RSt w b B v room l) (hb : b < B) (hB : B ≤ w.heap.size) (hl : l.length < 2900000000000) (hk : ky.size ≤ maxLen) (hr : r.size ≤ maxLen) (hF : (fileOf l id).size ≤ maxLen) :
    Calls Tryz.prog 26 #[.pointer (some ⟨b, 0, none⟩), .string ky, .string r, .int .i64 id] w fun e w' => e = .returned (.tuple #[.int .i64 (putAns l ky r id).1, .int .i64 (putAns l ky r id).2.1]) ∧ ∃ v', RSt w' b B v' room (putAns l ky r id).2.2 ∧ Chg b v w w' ∧ Lies w v v' := by
  obtain ⟨i1, gi, gz0, gz1, gz2⟩ := info_parts Tryz.infoEvent
  have hr2 := hr
  unfold maxLen at hk hr
  by_cases h1 : ky.size < 1
  · have HA := hid (show putAns l ky r id = (0, 12, l) from by unfold putAns; rw [if_pos (Or.inl h1)])
    have h1' : decide ((ky.size : Int) < 1) = true := by simp; omega
    rw [HA.out]
    go_enter Tryz.func26, Tryz.ntmps26
    go_wp2
    go_ret2
    exact ⟨rfl, v, h, Chg.refl _ _ _, .inl rfl⟩
  · have h1' : decide ((ky.size : Int) < 1) = false := by simp; omega
    by_cases h2 : 8 < ky.size
    · have HA := hid (show putAns l ky r id = (0, 12, l) from by unfold putAns; rw [if_pos (Or.inr h2)])
      have h2' : decide ((8 : Int) < (ky.size : Int)) = true := by simp; omega
      rw [HA.out]
      go_enter Tryz.func26, Tryz.ntmps26
      go_wp2
      go_ret2
      exact ⟨rfl, v, h, Chg.refl _ _ _, .inl rfl⟩
    · have h2' : decide ((8 : Int) < (ky.size : Int)) = false := by simp; omega
      by_cases h3 : 500 < r.size
      · have HA := hid (show putAns l ky r id = (0, 1, l) from by unfold putAns; rw [if_neg (by omega), if_pos h3])
        have h3' : (500 : Int) < (r.size : Int) := by omega
        rw [HA.out]
        go_enter Tryz.func26, Tryz.ntmps26
        go_wp2
        go_ret2
        exact ⟨rfl, v, h, Chg.refl _ _ _, .inl rfl⟩
      · have h3' : ¬ (500 : Int) < (r.size : Int) := by omega
        have HFI := hid (stoFile_any b B v room l id w h)
        have heq := emp_beq (fileOf l id)
        have HE := hid (fun w => refEncode_any (fileOf l id) r w hF hr2)
        have HR := hid (show putAns l ky r id = if fileOf l id = ⟨#[]⟩ then (0, 8, l) else (((enAns (fileOf l id) r).1.size : Int), (enAns (fileOf l id) r).2, l ++ [⟨3, 0, ky, (enAns (fileOf l id) r).1⟩]) from by unfold putAns; rw [if_neg (by omega), if_neg h3])
        by_cases h4 : fileOf l id = ⟨#[]⟩
        · rw [if_pos h4] at HR
          have h4' : ((fileOf l id).toList == []) = true := by rw [heq]; simp [h4]
          rw [HR.out]
          clear h4 heq HE HR hF
          generalize fileOf l id = F at *
          go_enter Tryz.func26, Tryz.ntmps26
          go_wp2_with fail
          refine Calls.mono HFI.out ?_
          rintro e w1 ⟨rfl, k1⟩
          rw [k1]
          clear k1 w1
          go_wp2
          go_ret2
          exact ⟨rfl, v, h, Chg.refl _ _ _, .inl rfl⟩
        · rw [if_neg h4] at HR
          have h4' : ((fileOf l id).toList == []) = false := by rw [heq]; simp [h4]
          rw [HR.out]
          clear h4 heq HR hF
          generalize enAns (fileOf l id) r = E at *
          obtain ⟨fr, ec⟩ := E
          generalize fileOf l id = F at *
          simp only at HE ⊢
          go_enter Tryz.func26, Tryz.ntmps26
          go_wp2_with fail
          refine Calls.mono HFI.out ?_
          rintro e w1 ⟨rfl, k1⟩
          rw [k1]
          clear k1 w1
          go_wp2_with fail
          refine Calls.mono (HE.out _) ?_
          rintro e w1 ⟨rfl, b1⟩
          have H2 := h.below b1
          have c1 := H2.c1
          have hs1 := b1.size
          have hB2 : B ≤ w1.heap.size := Nat.le_trans hB hs1
          go_wp2_with (at_builtin; refine wpList_append_own_at _ rfl (.tmp 39) (.tmp 43) 49 rfl B 95 i1 (.agg #[.int .i64 0, .int .i64 0, .string ⟨#[]⟩, .string ⟨#[]⟩]) 4 48 Tryz.underlying49 gi gz0 gz1 gz2 rfl (by decide) _ _ _ rfl (H2.log.alloc _) ⟨_, 0, none⟩ 1 1 [.int .i64 3, .int .i64 0, .string ky, .string fr] rfl rfl (cell_four_new _ _ _ _ _ _) (by intro u hu; simp at hu; rcases hu with rfl | rfl | rfl | rfl <;> rfl) (by unfold maxLen; omega) (by omega) (by simp; omega) ?_; intro v' w4 hown' hgrow _ hat; have m4 := hid (H2.mid hb hgrow); have k4 := World.rowIs.cell m4.out (i := 1) (by omega); have f4 := World.rowIs.frozen m4.out 1; have R4 := hid (H2.push (e := ⟨3, 0, ky, fr⟩) hb hgrow hown'); have C4 := hid (chg_push (b := b) (v' := v') hgrow); have L4 := hid (lies_at hat); obtain ⟨g4, cap4, rfl⟩ := own_frm4 hown' (by omega); clear hown' hat)
          go_ret2
          exact ⟨rfl, _, R4.out, (Chg.ofBelow b1).trans C4.out, L4.out.mono hs1⟩

set_option maxRecDepth 100000 in
set_option maxHeartbeats 1600000 in
theorem stoGet_any (b B : Nat) (v : Value) (room : Int) (l : List Ev) (ky : ByteArray) (w : World) (h : RSt w b B v room l) (hF : ∀ id, (fileOf l id).size ≤ maxLen) (hG : ∀ fr, frmOf l ky = some fr → fr.size ≤ maxLen) :
    Calls Tryz.prog 30 #[.pointer (some ⟨b, 0, none⟩), .string ky] w fun e w' => e = .returned (.tuple #[.string (getAns l ky).1, .int .i64 (getAns l ky).2]) ∧ Below w.heap.size w w' := by
  have HFR := hid (stoFrame_any b B v room l ky w h)
  have HG := hid (show getAns l ky = (match frmOf l ky with
    | none => ((⟨#[]⟩, 12) : ByteArray × Int)
    | some fr => if hdB fr = false then (⟨#[]⟩, 7) else if fileOf l (num fr 2 2 : Int) = ⟨#[]⟩ then (⟨#[]⟩, 8) else dcAns (fileOf l (num fr 2 2 : Int)) fr) from rfl)
  cases hq : frmOf l ky with
  | none =>
    rw [hq] at HG HFR
    simp only [frAns] at HFR HG
    rw [HG.out]
    clear hq
    go_enter Tryz.func30, Tryz.ntmps30
    go_wp2_with fail
    refine Calls.mono HFR.out ?_
    rintro e w1 ⟨rfl, k1⟩
    rw [k1]
    clear k1 w1
    go_wp2
    go_ret2
    exact ⟨rfl, Below.refl _ _⟩
  | some fr =>
    have hfr := hG fr hq
    rw [hq] at HG HFR
    simp only [frAns] at HFR HG
    have HH := hid (isHead_any fr w hfr)
    cases hh : hdB fr
    · rw [hh, if_pos rfl] at HG
      rw [hh] at HH
      rw [HG.out]
      clear hq hh
      go_enter Tryz.func30, Tryz.ntmps30
      go_wp2_with fail
      refine Calls.mono HFR.out ?_
      rintro e w1 ⟨rfl, k1⟩
      rw [k1]
      clear k1 w1
      go_wp2_with fail
      refine Calls.mono HH.out ?_
      rintro e w1 ⟨rfl, k1⟩
      rw [k1]
      clear k1 w1
      go_wp2
      go_ret2
      exact ⟨rfl, Below.refl _ _⟩
    · rw [hh, if_neg (by simp)] at HG
      have h14 : 14 ≤ fr.size := by unfold hdB at hh; rw [decide_eq_true_iff] at hh; exact hh.1
      rw [hh] at HH
      have HN := hid (refNumber_any fr 2 2 w hfr (by omega) (by omega))
      have HFI := hid (stoFile_any b B v room l (num fr 2 2 : Int) w h)
      have heq := emp_beq (fileOf l (num fr 2 2 : Int))
      have HD := hid (fun w => refDecode_any (fileOf l (num fr 2 2 : Int)) fr w (hF _) hfr)
      have hnl := num_lt fr 2 2
      clear hF hG hq hh
      generalize num fr 2 2 = I at *
      by_cases h4 : fileOf l (I : Int) = ⟨#[]⟩
      · rw [if_pos h4] at HG
        have h4' : ((fileOf l (I : Int)).toList == []) = true := by rw [heq]; simp [h4]
        rw [HG.out]
        clear h4 heq HD HG
        generalize fileOf l (I : Int) = F at *
        go_enter Tryz.func30, Tryz.ntmps30
        go_wp2_with fail
        refine Calls.mono HFR.out ?_
        rintro e w1 ⟨rfl, k1⟩
        rw [k1]
        clear k1 w1
        go_wp2_with fail
        refine Calls.mono HH.out ?_
        rintro e w1 ⟨rfl, k1⟩
        rw [k1]
        clear k1 w1
        go_wp2_with fail
        refine Calls.mono HN.out ?_
        rintro e w1 ⟨rfl, k1⟩
        rw [k1]
        clear k1 w1
        go_wp2_with fail
        refine Calls.mono HFI.out ?_
        rintro e w1 ⟨rfl, k1⟩
        rw [k1]
        clear k1 w1
        go_wp2
        go_ret2
        exact ⟨rfl, Below.refl _ _⟩
      · rw [if_neg h4] at HG
        have h4' : ((fileOf l (I : Int)).toList == []) = false := by rw [heq]; simp [h4]
        rw [HG.out]
        clear h4 heq HG
        generalize dcAns (fileOf l (I : Int)) fr = D at *
        obtain ⟨rc, ec⟩ := D
        generalize fileOf l (I : Int) = F at *
        simp only at HD ⊢
        go_enter Tryz.func30, Tryz.ntmps30
        go_wp2_with fail
        refine Calls.mono HFR.out ?_
        rintro e w1 ⟨rfl, k1⟩
        rw [k1]
        clear k1 w1
        go_wp2_with fail
        refine Calls.mono HH.out ?_
        rintro e w1 ⟨rfl, k1⟩
        rw [k1]
        clear k1 w1
        go_wp2_with fail
        refine Calls.mono HN.out ?_
        rintro e w1 ⟨rfl, k1⟩
        rw [k1]
        clear k1 w1
        go_wp2_with fail
        refine Calls.mono HFI.out ?_
        rintro e w1 ⟨rfl, k1⟩
        rw [k1]
        clear k1 w1
        go_wp2_with fail
        refine Calls.mono (HD.out _) ?_
        rintro e w1 ⟨rfl, b1⟩
        go_wp2
        go_ret2
        exact ⟨rfl, b1⟩
end Go.Proofs.YtnconbpneimjiaaGreat

/-
  P13: the walks of Keeps' key and register.
-/
import Derived.Test.YtnconbpneimjiaaKeepMem
import Derived.Deep.RegionHeld3
import Derived.BigQuiet
namespace Go.Proofs.Ytnconbpneimjiaa
open Go.RowKit Go.PlainAid

theorem emp_beq2 (x : ByteArray) : (x.toList == []) = decide (x = ⟨#[]⟩) := by
  rw [← text_beq, ByteArray.toList_eq ⟨#[]⟩]
set_option maxRecDepth 100000 in
theorem key_any (k : Nat) (w : World) (h : k < 5) :
    Calls Try.prog 25 #[.int .i64 (k : Int)] w fun e w' => e = .returned (.string (keyK k)) ∧ w' = w := by
  have HK := hid (show keyK k = (⟨#[107, 101, 121, 45, 48, 48, 48, 48, 48]⟩ : ByteArray).extract 0 (4 + k) from rfl)
  have hz : (⟨#[107, 101, 121, 45, 48, 48, 48, 48, 48]⟩ : ByteArray).size = 9 := rfl
  have h1 : 4 + (k : Int) ≤ 9 := by omega
  go_enter Try.func25, Try.ntmps25
  go_wp2
  go_ret
  exact ⟨by rw [HK.out]; rfl, rfl⟩

set_option maxRecDepth 100000 in
set_option maxHeartbeats 1600000 in
theorem kreg_any (B b x f : Nat) (room : Int) (g c : Nat → Nat) (F : Nat → Prop) (l : List Ev) (fls bnd rec wth : Nat → ByteArray) (has : Nat → Bool) (by' : Nat → Nat) (w : World) (h : KSt w B b x room g c F l fls bnd rec wth has by') (hf : f < 8) :
    Calls Try.prog 21 #[.pointer (some ⟨b, 0, none⟩), .int .i64 (f : Int)] w fun e w' => e = .returned (.bool true) ∧ KPost w B b x room g c F l fls w' := by
  obtain ⟨q1, q2⟩ := h.inv.reg hf
  have hps := pOk_size (h.inv.fl f hf).1
  have K := hid (fun w' (hp : PS w' x F room l) => pg_register x F room l (fls f) w' hp h.inv.kn h.inv.ok (by unfold maxLen; omega))
  have HH := hid h
  have p0 := h.km.p0
  have p1 := h.km.p1
  have s0 : w.cell? ⟨b, 2, none⟩ = some (.slice (some ⟨g 0, 0, none⟩) 4 (c 0)) := h.km.sl 0 (by omega)
  have s1 : w.cell? ⟨b, 3, none⟩ = some (.slice (some ⟨g 1, 0, none⟩) 8 (c 1)) := h.km.sl 1 (by omega)
  have s2 : w.cell? ⟨b, 4, none⟩ = some (.slice (some ⟨g 2, 0, none⟩) 4 (c 2)) := h.km.sl 2 (by omega)
  have f1 := h.km.c1 f hf
  obtain ⟨i, hfi⟩ : ∃ i, f / 2 = i := ⟨_, rfl⟩
  rw [hfi] at q1 q2
  have hi : i < 4 := by omega
  have hdv : (f : Int) / 2 = (i : Int) := by omega
  have hf8 : (f : Int) < 8 := by omega
  have hi4 : (i : Int) < 4 := by omega
  have HFI := hid hfi
  clear hfi
  have HB := hid (fun j (hj : j < 4) => h.km.c2 j hj)
  have HCS := hid (fun j => show cntB bnd (j + 1) = cntB bnd j + if bnd j = ⟨#[]⟩ then 0 else 1 from rfl)
  have HCL := hid (fun j => cntB_le bnd j)
  have HI4 := hid (h.km.c2 i hi)
  have HN := hid (show cntB bnd 4 = cntB bnd 4 from rfl)
  obtain ⟨N, hN⟩ : ∃ N, cntB bnd 4 = N := ⟨_, rfl⟩
  have HNN := hid hN
  rw [hN] at q1 q2
  have hN4 : N ≤ 4 := by rw [← hN]; exact cntB_le bnd 4
  clear hN h HN
  by_cases hfull : bnd i = ⟨#[]⟩ ∧ room ≤ (N : Int)
  · have hA := q1 hfull
    rw [hA] at K
    have t0 : ((bnd i).toList == []) = true := by rw [emp_beq2]; simp [hfull.1]
    have t1 : decide (room ≤ (N : Int)) = true := by simp; exact hfull.2
    clear q1 q2 hA hfull
    have KD := hid (K.out w.drew (HH.out.ps.kept (w' := w.drew) (Nat.le_refl _) (fun _ _ => rfl)))
    go_enter Try.func21, Try.ntmps21
    go_wp2_with fail
    go_loop [6, 7] (fun nv jv => ∃ j : Nat, j ≤ 4 ∧ jv = .int .i64 j ∧ nv = .int .i64 (cntB bnd j : Int)) (fun _ jv => 4 - (intOf jv).toNat)
    case atStart => exact ⟨0, Nat.zero_le _, rfl, rfl⟩
    case round =>
      obtain ⟨j, hj, rfl, rfl⟩ := hrel
      have hcl := HCL.out j
      by_cases hlt : j < 4
      · have cj := HB.out j hlt
        have HST := hid (HCS.out j)
        generalize cntB bnd j = cn at *
        by_cases e : bnd j = ⟨#[]⟩
        · rw [if_pos e] at HST
          have e' : ((bnd j).toList == []) = true := by rw [emp_beq2]; simp [e]
          clear e
          go_wp2
          go_round
          case rel => exact ⟨j + 1, by omega, by go_num, by rw [HST.out]; rfl⟩
          case measure => simp [intOf]; omega
        · rw [if_neg e] at HST
          have e' : ((bnd j).toList == []) = false := by rw [emp_beq2]; simp [e]
          clear e
          go_wp2
          go_round
          case rel => exact ⟨j + 1, by omega, by go_num, by rw [HST.out]; go_num⟩
          case measure => simp [intOf]; omega
      · have HJ := hid (show j = 4 from by omega)
        have HNJ := hid (show cntB bnd j = N from by rw [HJ.out]; exact HNN.out)
        rw [HNJ.out]
        go_wp2_with fail
        go_region_held3 (fun w' => w'.cell? ⟨b, 0, none⟩ = some (.pointer (some ⟨x, 0, none⟩)) ∧ w'.cell? ⟨b, 3, none⟩ = some (.slice (some ⟨g 1, 0, none⟩) 8 (c 1)) ∧ w'.cell? ⟨g 1, f, none⟩ = some (.string (fls f))) (first | go_keep | (refine ⟨?_, ?_, ?_⟩ <;> assumption) | assumption) (first | (go_at_call 10; refine KD.out.mono ?_; rintro e w1 ⟨rfl, F', p1', c1, g1⟩; have cF : ChgF F w w1 := (ChgF.ofBelow (Below.drew (Below.refl _ _))).trans c1 (fun k _ q => q); have km1 := hid (HH.out.km.chg cF g1 HH.out.sz); have k0 := km1.out.p0; have k1 : w1.cell? ⟨b, 3, none⟩ = some (.slice (some ⟨g 1, 0, none⟩) 8 (c 1)) := km1.out.sl 1 (by omega); have k2 := km1.out.c1 f hf))
        have m1 := km1.out.p1
        have m0 : w1.cell? ⟨b, 2, none⟩ = some (.slice (some ⟨g 0, 0, none⟩) 4 (c 0)) := km1.out.sl 0 (by omega)
        have m2 : w1.cell? ⟨b, 4, none⟩ = some (.slice (some ⟨g 2, 0, none⟩) 4 (c 2)) := km1.out.sl 2 (by omega)
        have n2 := km1.out.c2 i hi
        have n0 := km1.out.c0 i hi
        have z2 := km1.out.fz 2 (by omega) i
        have hs1 := cF.size
        have bel1 := hid (KF.of (b := b) (g := g) cF)
        go_wp2
        go_ret
        exact ⟨rfl, F', l, bnd, rec, wth, has, by', ⟨p1', km1.out, HH.out.inv, Nat.le_trans HH.out.sz hs1⟩, by omega, bel1.out⟩
  · obtain ⟨l', hA, hl', hinv⟩ := q2 hfull
    rw [hA] at K
    have HIN := hid hinv
    have HF := hid hfull
    clear q1 q2 hA hinv hfull
    by_cases he : bnd i = ⟨#[]⟩
    · have t0 : ((bnd i).toList == []) = true := by rw [emp_beq2]; simp [he]
      have t1 : decide (room ≤ (N : Int)) = false := by
        simp only [decide_eq_false_iff_not]
        exact fun q => HF.out ⟨he, q⟩
      clear he
      have KD := hid (K.out w.drew (HH.out.ps.kept (w' := w.drew) (Nat.le_refl _) (fun _ _ => rfl)))
      go_enter Try.func21, Try.ntmps21
      go_wp2_with fail
      go_loop [6, 7] (fun nv jv => ∃ j : Nat, j ≤ 4 ∧ jv = .int .i64 j ∧ nv = .int .i64 (cntB bnd j : Int)) (fun _ jv => 4 - (intOf jv).toNat)
      case atStart => exact ⟨0, Nat.zero_le _, rfl, rfl⟩
      case round =>
        obtain ⟨j, hj, rfl, rfl⟩ := hrel
        have hcl := HCL.out j
        by_cases hlt : j < 4
        · have cj := HB.out j hlt
          have HST := hid (HCS.out j)
          generalize cntB bnd j = cn at *
          by_cases e : bnd j = ⟨#[]⟩
          · rw [if_pos e] at HST
            have e' : ((bnd j).toList == []) = true := by rw [emp_beq2]; simp [e]
            clear e
            go_wp2
            go_round
            case rel => exact ⟨j + 1, by omega, by go_num, by rw [HST.out]; rfl⟩
            case measure => simp [intOf]; omega
          · rw [if_neg e] at HST
            have e' : ((bnd j).toList == []) = false := by rw [emp_beq2]; simp [e]
            clear e
            go_wp2
            go_round
            case rel => exact ⟨j + 1, by omega, by go_num, by rw [HST.out]; go_num⟩
            case measure => simp [intOf]; omega
        · have HJ := hid (show j = 4 from by omega)
          have HNJ := hid (show cntB bnd j = N from by rw [HJ.out]; exact HNN.out)
          rw [HNJ.out]
          go_wp2_with fail
          go_region_held3 (fun w' => w'.cell? ⟨b, 0, none⟩ = some (.pointer (some ⟨x, 0, none⟩)) ∧ w'.cell? ⟨b, 3, none⟩ = some (.slice (some ⟨g 1, 0, none⟩) 8 (c 1)) ∧ w'.cell? ⟨g 1, f, none⟩ = some (.string (fls f))) (first | go_keep | (refine ⟨?_, ?_, ?_⟩ <;> assumption) | assumption) (first | (go_at_call 10; refine KD.out.mono ?_; rintro e w1 ⟨rfl, F', p1', c1, g1⟩; have cF : ChgF F w w1 := (ChgF.ofBelow (Below.drew (Below.refl _ _))).trans c1 (fun k _ q => q); have km1 := hid (HH.out.km.chg cF g1 HH.out.sz); have k0 := km1.out.p0; have k1 : w1.cell? ⟨b, 3, none⟩ = some (.slice (some ⟨g 1, 0, none⟩) 8 (c 1)) := km1.out.sl 1 (by omega); have k2 := km1.out.c1 f hf))
          have m1 := km1.out.p1
          have m0 : w1.cell? ⟨b, 2, none⟩ = some (.slice (some ⟨g 0, 0, none⟩) 4 (c 0)) := km1.out.sl 0 (by omega)
          have m2 : w1.cell? ⟨b, 4, none⟩ = some (.slice (some ⟨g 2, 0, none⟩) 4 (c 2)) := km1.out.sl 2 (by omega)
          have n2 := km1.out.c2 i hi
          have n0 := km1.out.c0 i hi
          have z2 := km1.out.fz 2 (by omega) i
          have hs1 := cF.size
          have bel1 := hid (KF.of (b := b) (g := g) cF)
          go_wp2_with fail
          have ne1 : g 2 ≠ b := km1.out.gb 2 (by omega)
          have ne2 : g 2 ≠ g 1 := km1.out.gd 2 1 (by omega) (by omega) (by omega)
          have km2 := hid (km1.out.set2 hi (fls f))
          have v0 : (w1.setCell ⟨g 2, i, none⟩ (.string (fls f))).cell? ⟨b, 2, none⟩ = some (.slice (some ⟨g 0, 0, none⟩) 4 (c 0)) := km2.out.sl 0 (by omega)
          have v1 := km2.out.c0 i hi
          go_region_held3 (fun w' => w'.cell? ⟨b, 4, none⟩ = some (.slice (some ⟨g 2, 0, none⟩) 4 (c 2)) ∧ w'.cell? ⟨b, 3, none⟩ = some (.slice (some ⟨g 1, 0, none⟩) 8 (c 1)) ∧ w'.cell? ⟨g 1, f, none⟩ = some (.string (fls f))) (first | go_keep | (refine ⟨?_, ?_, ?_⟩ <;> assumption) | assumption) (fail)
          all_goals go_wp2
          all_goals go_ret
          all_goals exact ⟨rfl, F', l', _, rec, wth, has, by', ⟨(p1'.setc (a := ⟨g 2, i, none⟩) (km1.out.gF 2 (by omega)) _).kept (Nat.le_refl _) (fun _ _ => rfl), km2.out.below (Below.drew (Below.refl _ _)) (by simp [World.setCell]; exact Nat.le_trans HH.out.sz hs1), HIN.out, by simp [World.setCell]; exact Nat.le_trans HH.out.sz hs1⟩, hl', (bel1.out.setG (a := ⟨g 2, i, none⟩) (KF.own (by omega)) _).drew⟩
    · have t0 : ((bnd i).toList == []) = false := by rw [emp_beq2]; simp [he]
      clear he
      have KD := hid (K.out w.drew (HH.out.ps.kept (w' := w.drew) (Nat.le_refl _) (fun _ _ => rfl)))
      go_enter Try.func21, Try.ntmps21
      go_wp2_with fail
      go_loop [6, 7] (fun nv jv => ∃ j : Nat, j ≤ 4 ∧ jv = .int .i64 j ∧ nv = .int .i64 (cntB bnd j : Int)) (fun _ jv => 4 - (intOf jv).toNat)
      case atStart => exact ⟨0, Nat.zero_le _, rfl, rfl⟩
      case round =>
        obtain ⟨j, hj, rfl, rfl⟩ := hrel
        have hcl := HCL.out j
        by_cases hlt : j < 4
        · have cj := HB.out j hlt
          have HST := hid (HCS.out j)
          generalize cntB bnd j = cn at *
          by_cases e : bnd j = ⟨#[]⟩
          · rw [if_pos e] at HST
            have e' : ((bnd j).toList == []) = true := by rw [emp_beq2]; simp [e]
            clear e
            go_wp2
            go_round
            case rel => exact ⟨j + 1, by omega, by go_num, by rw [HST.out]; rfl⟩
            case measure => simp [intOf]; omega
          · rw [if_neg e] at HST
            have e' : ((bnd j).toList == []) = false := by rw [emp_beq2]; simp [e]
            clear e
            go_wp2
            go_round
            case rel => exact ⟨j + 1, by omega, by go_num, by rw [HST.out]; go_num⟩
            case measure => simp [intOf]; omega
        · have HJ := hid (show j = 4 from by omega)
          have HNJ := hid (show cntB bnd j = N from by rw [HJ.out]; exact HNN.out)
          rw [HNJ.out]
          go_wp2_with fail
          go_region_held3 (fun w' => w'.cell? ⟨b, 0, none⟩ = some (.pointer (some ⟨x, 0, none⟩)) ∧ w'.cell? ⟨b, 3, none⟩ = some (.slice (some ⟨g 1, 0, none⟩) 8 (c 1)) ∧ w'.cell? ⟨g 1, f, none⟩ = some (.string (fls f))) (first | go_keep | (refine ⟨?_, ?_, ?_⟩ <;> assumption) | assumption) (first | (go_at_call 10; refine KD.out.mono ?_; rintro e w1 ⟨rfl, F', p1', c1, g1⟩; have cF : ChgF F w w1 := (ChgF.ofBelow (Below.drew (Below.refl _ _))).trans c1 (fun k _ q => q); have km1 := hid (HH.out.km.chg cF g1 HH.out.sz); have k0 := km1.out.p0; have k1 : w1.cell? ⟨b, 3, none⟩ = some (.slice (some ⟨g 1, 0, none⟩) 8 (c 1)) := km1.out.sl 1 (by omega); have k2 := km1.out.c1 f hf))
          have m1 := km1.out.p1
          have m0 : w1.cell? ⟨b, 2, none⟩ = some (.slice (some ⟨g 0, 0, none⟩) 4 (c 0)) := km1.out.sl 0 (by omega)
          have m2 : w1.cell? ⟨b, 4, none⟩ = some (.slice (some ⟨g 2, 0, none⟩) 4 (c 2)) := km1.out.sl 2 (by omega)
          have n2 := km1.out.c2 i hi
          have n0 := km1.out.c0 i hi
          have z2 := km1.out.fz 2 (by omega) i
          have hs1 := cF.size
          have bel1 := hid (KF.of (b := b) (g := g) cF)
          go_wp2_with fail
          have ne1 : g 2 ≠ b := km1.out.gb 2 (by omega)
          have ne2 : g 2 ≠ g 1 := km1.out.gd 2 1 (by omega) (by omega) (by omega)
          have km2 := hid (km1.out.set2 hi (fls f))
          have v0 : (w1.setCell ⟨g 2, i, none⟩ (.string (fls f))).cell? ⟨b, 2, none⟩ = some (.slice (some ⟨g 0, 0, none⟩) 4 (c 0)) := km2.out.sl 0 (by omega)
          have v1 := km2.out.c0 i hi
          go_region_held3 (fun w' => w'.cell? ⟨b, 4, none⟩ = some (.slice (some ⟨g 2, 0, none⟩) 4 (c 2)) ∧ w'.cell? ⟨b, 3, none⟩ = some (.slice (some ⟨g 1, 0, none⟩) 8 (c 1)) ∧ w'.cell? ⟨g 1, f, none⟩ = some (.string (fls f))) (first | go_keep | (refine ⟨?_, ?_, ?_⟩ <;> assumption) | assumption) (fail)
          all_goals go_wp2
          all_goals go_ret
          all_goals exact ⟨rfl, F', l', _, rec, wth, has, by', ⟨(p1'.setc (a := ⟨g 2, i, none⟩) (km1.out.gF 2 (by omega)) _).kept (Nat.le_refl _) (fun _ _ => rfl), km2.out.below (Below.drew (Below.refl _ _)) (by simp [World.setCell]; exact Nat.le_trans HH.out.sz hs1), HIN.out, by simp [World.setCell]; exact Nat.le_trans HH.out.sz hs1⟩, hl', (bel1.out.setG (a := ⟨g 2, i, none⟩) (KF.own (by omega)) _).drew⟩
end Go.Proofs.Ytnconbpneimjiaa

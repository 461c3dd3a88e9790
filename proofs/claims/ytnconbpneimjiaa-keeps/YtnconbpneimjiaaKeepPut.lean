/-
  P14: the walks of Keeps' put and step.
-/
import Derived.Test.YtnconbpneimjiaaKeepGet
import Derived.Test.YtnconbpneimjiaaPick
namespace Go.Proofs.Ytnconbpneimjiaa
open Go.RowKit Go.PlainAid

set_option maxRecDepth 100000 in
set_option maxHeartbeats 3200000 in
theorem kput_any (B b x k i : Nat) (s : ByteArray) (room : Int) (g c : Nat → Nat) (F : Nat → Prop) (l : List Ev) (fls bnd rec wth : Nat → ByteArray) (has : Nat → Bool) (by' : Nat → Nat) (w : World) (h : KSt w B b x room g c F l fls bnd rec wth has by') (hk : k < 5) (hi : i < 4) (hs : s.size ≤ maxLen) :
    Calls Try.prog 23 #[.pointer (some ⟨b, 0, none⟩), .int .i64 (k : Int), .int .i64 (i : Int), .string s] w fun e w' => e = .returned (.bool true) ∧ KPost w B b x room g c F l fls w' := by
  obtain ⟨q1, q2, q3⟩ := h.inv.put hk hi s
  have HH := hid h
  have hks := keyK_size hk
  have KK := hid (fun w => key_any k w hk)
  have KD := hid (pg_put x F room l (keyK k) s (idK i : Int) w.drew (h.ps.kept (w' := w.drew) (Nat.le_refl _) (fun _ _ => rfl)) h.inv.kn h.inv.ok (by unfold maxLen; omega) hs)
  have p0 := h.km.p0
  have s0 : w.cell? ⟨b, 2, none⟩ = some (.slice (some ⟨g 0, 0, none⟩) 4 (c 0)) := h.km.sl 0 (by omega)
  have f0 := h.km.c0 i hi
  have hk5 : (k : Int) < 5 := by omega
  have hi4 : (i : Int) < 4 := by omega
  have hid4 := idK_lt hi
  clear h
  generalize keyK k = ky at *
  unfold maxLen at hs
  by_cases h5 : 500 < s.size
  · have hA := q1 h5
    rw [hA] at KD
    have h5' : (500 : Int) < (s.size : Int) := by omega
    clear q1 q2 q3 hA
    go_enter Try.func23, Try.ntmps23
    go_wp2_with fail
    go_region_held3 (fun w' => w'.cell? ⟨b, 0, none⟩ = some (.pointer (some ⟨x, 0, none⟩)) ∧ w'.cell? ⟨b, 2, none⟩ = some (.slice (some ⟨g 0, 0, none⟩) 4 (c 0)) ∧ w'.cell? ⟨g 0, i, none⟩ = some (.int .i64 (idK i : Int))) (first | go_keep | (refine ⟨?_, ?_, ?_⟩ <;> assumption) | assumption) (first | (go_at_call 25; refine (KK.out _).mono ?_; rintro e w1 ⟨rfl, k1⟩; rw [k1]; clear k1 w1) | (go_at_call 37; refine KD.out.mono ?_; rintro e w1 ⟨rfl, F', p1', c1, g1⟩; have cF : ChgF F w w1 := (ChgF.ofBelow (Below.drew (Below.refl _ _))).trans c1 (fun k _ q => q); have km1 := hid (HH.out.km.chg cF g1 HH.out.sz); have k0 := km1.out.p0; have k1 : w1.cell? ⟨b, 2, none⟩ = some (.slice (some ⟨g 0, 0, none⟩) 4 (c 0)) := km1.out.sl 0 (by omega); have k2 := km1.out.c0 i hi))
    have hs1 := cF.size
    have bel1 := hid (KF.of (b := b) (g := g) cF)
    have m2 : w1.cell? ⟨b, 4, none⟩ = some (.slice (some ⟨g 2, 0, none⟩) 4 (c 2)) := km1.out.sl 2 (by omega)
    have n2 := km1.out.c2 i hi
    go_wp2
    go_ret
    exact ⟨rfl, F', l, bnd, rec, wth, has, by', ⟨p1', km1.out, HH.out.inv, Nat.le_trans HH.out.sz hs1⟩, by omega, bel1.out⟩
  · have h5' : ¬ (500 : Int) < (s.size : Int) := by omega
    by_cases he : bnd i = ⟨#[]⟩
    · have hA := q2 h5 he
      rw [hA] at KD
      have t0 : ((bnd i).toList == []) = true := by rw [emp_beq2]; simp [he]
      clear q1 q2 q3 hA he
      go_enter Try.func23, Try.ntmps23
      go_wp2_with fail
      go_region_held3 (fun w' => w'.cell? ⟨b, 0, none⟩ = some (.pointer (some ⟨x, 0, none⟩)) ∧ w'.cell? ⟨b, 2, none⟩ = some (.slice (some ⟨g 0, 0, none⟩) 4 (c 0)) ∧ w'.cell? ⟨g 0, i, none⟩ = some (.int .i64 (idK i : Int))) (first | go_keep | (refine ⟨?_, ?_, ?_⟩ <;> assumption) | assumption) (first | (go_at_call 25; refine (KK.out _).mono ?_; rintro e w1 ⟨rfl, k1⟩; rw [k1]; clear k1 w1) | (go_at_call 37; refine KD.out.mono ?_; rintro e w1 ⟨rfl, F', p1', c1, g1⟩; have cF : ChgF F w w1 := (ChgF.ofBelow (Below.drew (Below.refl _ _))).trans c1 (fun k _ q => q); have km1 := hid (HH.out.km.chg cF g1 HH.out.sz); have k0 := km1.out.p0; have k1 : w1.cell? ⟨b, 2, none⟩ = some (.slice (some ⟨g 0, 0, none⟩) 4 (c 0)) := km1.out.sl 0 (by omega); have k2 := km1.out.c0 i hi))
      have hs1 := cF.size
      have bel1 := hid (KF.of (b := b) (g := g) cF)
      have m2 : w1.cell? ⟨b, 4, none⟩ = some (.slice (some ⟨g 2, 0, none⟩) 4 (c 2)) := km1.out.sl 2 (by omega)
      have n2 := km1.out.c2 i hi
      go_wp2
      go_ret
      exact ⟨rfl, F', l, bnd, rec, wth, has, by', ⟨p1', km1.out, HH.out.inv, Nat.le_trans HH.out.sz hs1⟩, by omega, bel1.out⟩
    · obtain ⟨l', n, hA, hn1, hn2, hl', hinv⟩ := q3 h5 he
      rw [hA] at KD
      have t0 : ((bnd i).toList == []) = false := by rw [emp_beq2]; simp [he]
      have HIN := hid hinv
      have hn1' : (14 : Int) ≤ (n : Int) := by omega
      have hn2' : (n : Int) ≤ 14 + (s.size : Int) := by omega
      have hn3 : decide ((14 : Int) ≤ (n : Int)) = true := by simp; omega
      have hn4 : decide ((n : Int) ≤ 14 + (s.size : Int)) = true := by simp; omega
      clear q1 q2 q3 hA he hinv
      go_enter Try.func23, Try.ntmps23
      go_wp2_with fail
      go_region_held3 (fun w' => w'.cell? ⟨b, 0, none⟩ = some (.pointer (some ⟨x, 0, none⟩)) ∧ w'.cell? ⟨b, 2, none⟩ = some (.slice (some ⟨g 0, 0, none⟩) 4 (c 0)) ∧ w'.cell? ⟨g 0, i, none⟩ = some (.int .i64 (idK i : Int))) (first | go_keep | (refine ⟨?_, ?_, ?_⟩ <;> assumption) | assumption) (first | (go_at_call 25; refine (KK.out _).mono ?_; rintro e w1 ⟨rfl, k1⟩; rw [k1]; clear k1 w1) | (go_at_call 37; refine KD.out.mono ?_; rintro e w1 ⟨rfl, F', p1', c1, g1⟩; have cF : ChgF F w w1 := (ChgF.ofBelow (Below.drew (Below.refl _ _))).trans c1 (fun k _ q => q); have km1 := hid (HH.out.km.chg cF g1 HH.out.sz); have k0 := km1.out.p0; have k1 : w1.cell? ⟨b, 2, none⟩ = some (.slice (some ⟨g 0, 0, none⟩) 4 (c 0)) := km1.out.sl 0 (by omega); have k2 := km1.out.c0 i hi))
      have hs1 := cF.size
      have bel1 := hid (KF.of (b := b) (g := g) cF)
      have m2 : w1.cell? ⟨b, 4, none⟩ = some (.slice (some ⟨g 2, 0, none⟩) 4 (c 2)) := km1.out.sl 2 (by omega)
      have n2 := km1.out.c2 i hi
      obtain ⟨W3, hW3⟩ : ∃ W3, w1.setCell ⟨g 3, k, none⟩ (.bool true) = W3 := ⟨_, rfl⟩
      have km3 := hid (km1.out.set3 hk true)
      rw [hW3] at km3
      obtain ⟨W4, hW4⟩ : ∃ W4, W3.setCell ⟨g 4, k, none⟩ (.string s) = W4 := ⟨_, rfl⟩
      have km4 := hid (km3.out.set4 hk s)
      rw [hW4] at km4
      obtain ⟨W5, hW5⟩ : ∃ W5, W4.setCell ⟨g 5, k, none⟩ (.int .i64 (i : Int)) = W5 := ⟨_, rfl⟩
      have km5 := hid (km4.out.set5 hk i)
      rw [hW5] at km5
      have km6 := hid (km5.out.set6 hk (bnd i))
      have m3 : w1.cell? ⟨b, 5, none⟩ = some (.slice (some ⟨g 3, 0, none⟩) 5 (c 3)) := km1.out.sl 3 (by omega)
      have n3 := km1.out.c3 k hk
      have z3 := km1.out.fz 3 (by omega) k
      have m4 : W3.cell? ⟨b, 6, none⟩ = some (.slice (some ⟨g 4, 0, none⟩) 5 (c 4)) := km3.out.sl 4 (by omega)
      have n4 := km3.out.c4 k hk
      have z4 := km3.out.fz 4 (by omega) k
      have m5 : W4.cell? ⟨b, 7, none⟩ = some (.slice (some ⟨g 5, 0, none⟩) 5 (c 5)) := km4.out.sl 5 (by omega)
      have n5 := km4.out.c5 k hk
      have z5 := km4.out.fz 5 (by omega) k
      have m6 : W5.cell? ⟨b, 8, none⟩ = some (.slice (some ⟨g 6, 0, none⟩) 5 (c 6)) := km5.out.sl 6 (by omega)
      have m7 : W5.cell? ⟨b, 4, none⟩ = some (.slice (some ⟨g 2, 0, none⟩) 4 (c 2)) := km5.out.sl 2 (by omega)
      have n7 := km5.out.c2 i hi
      have n6 := km5.out.c6 k hk
      have z6 := km5.out.fz 6 (by omega) k
      have ne1 : g 6 ≠ b := km1.out.gb 6 (by omega)
      have ne2 : g 6 ≠ g 2 := km1.out.gd 6 2 (by omega) (by omega) (by omega)
      have B3 : ChgF (KF F b g) w W3 := by rw [← hW3]; exact bel1.out.setG (a := ⟨g 3, k, none⟩) (KF.own (by omega)) _
      have B4 : ChgF (KF F b g) w W4 := by rw [← hW4]; exact B3.setG (a := ⟨g 4, k, none⟩) (KF.own (by omega)) _
      have B5 : ChgF (KF F b g) w W5 := by rw [← hW5]; exact B4.setG (a := ⟨g 5, k, none⟩) (KF.own (by omega)) _
      have P3 : PS W3 x F' room l' := by rw [← hW3]; exact p1'.setc (a := ⟨g 3, k, none⟩) (km1.out.gF 3 (by omega)) _
      have P4 : PS W4 x F' room l' := by rw [← hW4]; exact P3.setc (a := ⟨g 4, k, none⟩) (km1.out.gF 4 (by omega)) _
      have P5 : PS W5 x F' room l' := by rw [← hW5]; exact P4.setc (a := ⟨g 5, k, none⟩) (km1.out.gF 5 (by omega)) _
      have HX := hid (show ChgF (KF F b g) w W5 ∧ PS W5 x F' room l' from ⟨B5, P5⟩)
      have hz5 : B ≤ W5.heap.size := Nat.le_trans HH.out.sz HX.out.1.size
      clear B3 B4 B5 P3 P4 P5
      go_wp2_with fail
      go_region_held3 (fun w' => w'.cell? ⟨b, 8, none⟩ = some (.slice (some ⟨g 6, 0, none⟩) 5 (c 6)) ∧ w'.cell? ⟨b, 4, none⟩ = some (.slice (some ⟨g 2, 0, none⟩) 4 (c 2)) ∧ w'.cell? ⟨g 2, i, none⟩ = some (.string (bnd i))) (first | go_keep | (refine ⟨?_, ?_, ?_⟩ <;> assumption) | assumption) (fail)
      all_goals go_wp2
      all_goals go_ret
      all_goals exact ⟨by simp, F', l', bnd, _, _, _, _, ⟨(HX.out.2.setc (a := ⟨g 6, k, none⟩) (km1.out.gF 6 (by omega)) _).kept (Nat.le_refl _) (fun _ _ => rfl), km6.out.below (Below.drew (Below.refl _ _)) (by simp [World.setCell]; exact hz5), HIN.out, by simp [World.setCell]; exact hz5⟩, hl', (HX.out.1.setG (a := ⟨g 6, k, none⟩) (KF.own (by omega)) _).drew⟩
end Go.Proofs.Ytnconbpneimjiaa

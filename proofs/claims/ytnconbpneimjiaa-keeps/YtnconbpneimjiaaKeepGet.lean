/-
  P15: the walks of Keeps' number and get.
-/
import Derived.Test.YtnconbpneimjiaaKeepReg
namespace Go.Proofs.Ytnconbpneimjiaa
open Go.RowKit Go.PlainAid

set_option maxRecDepth 100000 in
set_option maxHeartbeats 400000 in
theorem knum_any (s : ByteArray) (a k : Nat) (w : World) (hs : s.size ≤ maxLen) (hk : k ≤ 4) (ha : a + k ≤ s.size) :
    Calls Try.prog 26 #[.string s, .int .i64 a, .int .i64 k] w fun e w' => e = .returned (.int .i64 (num s a k : Int)) ∧ w' = w := by
  unfold maxLen at hs
  have hb := get_btn s
  go_enter Try.func26, Try.ntmps26
  go_wp2
  go_loop [7, 8, 9] (fun n b i => ∃ c p : Nat, c ≤ k ∧ p = 256 ^ c ∧ i = .int .i64 c ∧ b = .int .i64 p ∧ n = .int .i64 (num s a c : Int)) (fun _ _ i => k - (intOf i).toNat)
  case atStart => exact ⟨0, 1, Nat.zero_le _, rfl, rfl, rfl, rfl⟩
  case round =>
    obtain ⟨c, p, hc, hpe, rfl, rfl, rfl⟩ := hrel
    have hn := num_lt s a c
    have hp := pow4 (k := c) (by omega)
    rw [← hpe] at hn hp
    by_cases hlt : c < k
    · have HF := hid (show num s a (c + 1) = num s a c + p * btn s (a + c) from by rw [num, hpe])
      have HP := hid (show p * 256 = 256 ^ (c + 1) from by rw [Nat.pow_succ, hpe])
      have hb1 := btn_lt s (a + c)
      have hmul : p * btn s (a + c) ≤ p * 255 := Nat.mul_le_mul_left _ (by omega)
      have hm0 : (0 : Int) ≤ (p : Int) * (btn s (a + c) : Int) := by rw [← Int.natCast_mul]; omega
      have hm1 : (p : Int) * (btn s (a + c) : Int) ≤ 4294967296 * 255 := by rw [← Int.natCast_mul]; omega
      have HM := hid (show ((p * btn s (a + c) : Nat) : Int) = (p : Int) * (btn s (a + c) : Int) from Int.natCast_mul _ _)
      clear hpe hmul
      generalize num s a c = x at *
      go_wp2
      go_round
      case rel => exact ⟨c + 1, p * 256, by omega, HP.out, by go_num, by go_num, by rw [HF.out, Int.natCast_add, HM.out]⟩
      case measure => simp [intOf]; omega
    · have HC := hid (show c = k from by omega)
      go_wp2
      go_ret
      exact ⟨ret_int (by rw [HC.out]), rfl⟩

theorem KPost.drewN {w : World} {B b x : Nat} {room : Int} {g c : Nat → Nat} {F : Nat → Prop} {l : List Ev} {fls : Nat → ByteArray} {w' : World} (h : KPost w B b x room g c F l fls w') (n : Nat) : KPost w B b x room g c F l fls (w'.drewN n) := by
  obtain ⟨F', l', bnd, rec, wth, has, by', h1, h2, h3⟩ := h
  have bd : Below w'.heap.size w' (w'.drewN n) := Below.drewN (Below.refl _ _) n
  exact ⟨F', l', bnd, rec, wth, has, by', ⟨h1.ps.kept bd.size (fun _ _ => rfl), h1.km.below bd h1.sz, h1.inv, h1.sz⟩, h2, ⟨h3.os, h3.tape, h3.output, h3.size, h3.block⟩⟩
set_option maxRecDepth 100000 in
set_option maxHeartbeats 3200000 in
theorem kget_any (B b x k : Nat) (room : Int) (g c : Nat → Nat) (F : Nat → Prop) (l : List Ev) (fls bnd rec wth : Nat → ByteArray) (has : Nat → Bool) (by' : Nat → Nat) (w : World) (h : KSt w B b x room g c F l fls bnd rec wth has by') (hk : k < 5) :
    Calls Try.prog 13 #[.pointer (some ⟨b, 0, none⟩), .int .i64 (k : Int)] w fun e w' => e = .returned (.bool true) ∧ KPost w B b x room g c F l fls w' := by
  obtain ⟨q1, q2⟩ := h.inv.get hk
  have HH := hid h
  have hks := keyK_size hk
  have KK := hid (fun w => key_any k w hk)
  have KD := hid (pg_get x F room l (keyK k) w.drew (h.ps.kept (w' := w.drew) (Nat.le_refl _) (fun _ _ => rfl)) h.inv.ok (by unfold maxLen; omega))
  have p0 := h.km.p0
  have hk5 : (k : Int) < 5 := by omega
  have h3 := h.km.c3 k hk
  clear h
  generalize keyK k = ky at *
  cases hh : has k
  · have hA := q1 hh
    rw [hA] at KD
    clear q1 q2 hA
    go_enter Try.func13, Try.ntmps13
    go_wp2_with fail
    go_region_held3 (fun w' => w'.cell? ⟨b, 0, none⟩ = some (.pointer (some ⟨x, 0, none⟩))) (first | go_keep | assumption) (first | (go_at_call 25; refine (KK.out _).mono ?_; rintro e w1 ⟨rfl, k1⟩; rw [k1]; clear k1 w1) | (go_at_call 24; refine KD.out.mono ?_; rintro e w1 ⟨rfl, b1⟩; have bw : Below w.heap.size w w1 := (Below.drew (Below.refl _ _)).trans b1; have km1 := hid (HH.out.km.below bw HH.out.sz); have k0 := km1.out.p0))
    have PO := hid (show KPost w B b x room g c F l fls w1 from ⟨F, l, bnd, rec, wth, has, by', ⟨HH.out.ps.kept bw.size (fun k q => bw.block k (HH.out.ps.lt k q)), km1.out, HH.out.inv, Nat.le_trans HH.out.sz bw.size⟩, by omega, ChgF.ofBelow bw⟩)
    have m2 : w1.cell? ⟨b, 4, none⟩ = some (.slice (some ⟨g 2, 0, none⟩) 4 (c 2)) := km1.out.sl 2 (by omega)
    have m3 : w1.cell? ⟨b, 5, none⟩ = some (.slice (some ⟨g 3, 0, none⟩) 5 (c 3)) := km1.out.sl 3 (by omega)
    have m4 : w1.cell? ⟨b, 6, none⟩ = some (.slice (some ⟨g 4, 0, none⟩) 5 (c 4)) := km1.out.sl 4 (by omega)
    have m5 : w1.cell? ⟨b, 7, none⟩ = some (.slice (some ⟨g 5, 0, none⟩) 5 (c 5)) := km1.out.sl 5 (by omega)
    have m6 : w1.cell? ⟨b, 8, none⟩ = some (.slice (some ⟨g 6, 0, none⟩) 5 (c 6)) := km1.out.sl 6 (by omega)
    have n3 := km1.out.c3 k hk
    have n4 := km1.out.c4 k hk
    have n5 := km1.out.c5 k hk
    have n6 := km1.out.c6 k hk
    rw [hh] at n3
    go_wp2
    go_ret
    exact ⟨rfl, PO.out⟩
  · obtain ⟨r0, r1, r2, r3, r4, r5⟩ := q2 hh
    clear q1 q2
    obtain ⟨j, hj⟩ : ∃ j, by' k = j := ⟨_, rfl⟩
    rw [hj] at r0 r3 r4 r5
    have hj4 : (j : Int) < 4 := by omega
    have HN1 := hid (fun w => knum_any (wth k) ((wth k).size - 4) 4 w (by unfold maxLen; omega) (by omega) (by omega))
    obtain ⟨aw, haw⟩ : ∃ aw, (wth k).size - 4 = aw := ⟨_, rfl⟩
    have hawi : ((wth k).size : Int) - 4 = (aw : Int) := by omega
    rw [haw] at HN1 r5
    by_cases e1 : bnd j = ⟨#[]⟩
    · have hA := r3 e1
      rw [hA] at KD
      have t1 : ((bnd j).toList == []) = true := by rw [emp_beq2]; simp [e1]
      clear r3 r4 r5 hA e1
      go_enter Try.func13, Try.ntmps13
      go_wp2_with fail
      go_region_held3 (fun w' => w'.cell? ⟨b, 0, none⟩ = some (.pointer (some ⟨x, 0, none⟩))) (first | go_keep | assumption) (first | (go_at_call 25; refine (KK.out _).mono ?_; rintro e w1 ⟨rfl, k1⟩; rw [k1]; clear k1 w1) | (go_at_call 24; refine KD.out.mono ?_; rintro e w1 ⟨rfl, b1⟩; have bw : Below w.heap.size w w1 := (Below.drew (Below.refl _ _)).trans b1; have km1 := hid (HH.out.km.below bw HH.out.sz); have k0 := km1.out.p0))
      have PO := hid (show KPost w B b x room g c F l fls w1 from ⟨F, l, bnd, rec, wth, has, by', ⟨HH.out.ps.kept bw.size (fun k q => bw.block k (HH.out.ps.lt k q)), km1.out, HH.out.inv, Nat.le_trans HH.out.sz bw.size⟩, by omega, ChgF.ofBelow bw⟩)
      have m2 : w1.cell? ⟨b, 4, none⟩ = some (.slice (some ⟨g 2, 0, none⟩) 4 (c 2)) := km1.out.sl 2 (by omega)
      have m3 : w1.cell? ⟨b, 5, none⟩ = some (.slice (some ⟨g 3, 0, none⟩) 5 (c 3)) := km1.out.sl 3 (by omega)
      have m4 : w1.cell? ⟨b, 6, none⟩ = some (.slice (some ⟨g 4, 0, none⟩) 5 (c 4)) := km1.out.sl 4 (by omega)
      have m5 : w1.cell? ⟨b, 7, none⟩ = some (.slice (some ⟨g 5, 0, none⟩) 5 (c 5)) := km1.out.sl 5 (by omega)
      have m6 : w1.cell? ⟨b, 8, none⟩ = some (.slice (some ⟨g 6, 0, none⟩) 5 (c 6)) := km1.out.sl 6 (by omega)
      have n3 := km1.out.c3 k hk
      have n4 := km1.out.c4 k hk
      have n5 := km1.out.c5 k hk
      have n6 := km1.out.c6 k hk
      have n2 := km1.out.c2 j r0
      rw [hh] at n3
      rw [hj] at n5
      go_wp2_with fail
      go_quiet (fail)
      go_wp2
      go_ret
      exact ⟨rfl, PO.out.drewN _⟩
    · have t1 : ((bnd j).toList == []) = false := by rw [emp_beq2]; simp [e1]
      by_cases e2 : bnd j = wth k
      · have hA := r4 e2
        rw [hA] at KD
        have t2 : ((bnd j).toList == (wth k).toList) = true := by rw [text_beq]; simp [e2]
        clear r3 r4 r5 hA e1 e2
        go_enter Try.func13, Try.ntmps13
        go_wp2_with fail
        go_region_held3 (fun w' => w'.cell? ⟨b, 0, none⟩ = some (.pointer (some ⟨x, 0, none⟩))) (first | go_keep | assumption) (first | (go_at_call 25; refine (KK.out _).mono ?_; rintro e w1 ⟨rfl, k1⟩; rw [k1]; clear k1 w1) | (go_at_call 24; refine KD.out.mono ?_; rintro e w1 ⟨rfl, b1⟩; have bw : Below w.heap.size w w1 := (Below.drew (Below.refl _ _)).trans b1; have km1 := hid (HH.out.km.below bw HH.out.sz); have k0 := km1.out.p0))
        have PO := hid (show KPost w B b x room g c F l fls w1 from ⟨F, l, bnd, rec, wth, has, by', ⟨HH.out.ps.kept bw.size (fun k q => bw.block k (HH.out.ps.lt k q)), km1.out, HH.out.inv, Nat.le_trans HH.out.sz bw.size⟩, by omega, ChgF.ofBelow bw⟩)
        have m2 : w1.cell? ⟨b, 4, none⟩ = some (.slice (some ⟨g 2, 0, none⟩) 4 (c 2)) := km1.out.sl 2 (by omega)
        have m3 : w1.cell? ⟨b, 5, none⟩ = some (.slice (some ⟨g 3, 0, none⟩) 5 (c 3)) := km1.out.sl 3 (by omega)
        have m4 : w1.cell? ⟨b, 6, none⟩ = some (.slice (some ⟨g 4, 0, none⟩) 5 (c 4)) := km1.out.sl 4 (by omega)
        have m5 : w1.cell? ⟨b, 7, none⟩ = some (.slice (some ⟨g 5, 0, none⟩) 5 (c 5)) := km1.out.sl 5 (by omega)
        have m6 : w1.cell? ⟨b, 8, none⟩ = some (.slice (some ⟨g 6, 0, none⟩) 5 (c 6)) := km1.out.sl 6 (by omega)
        have n3 := km1.out.c3 k hk
        have n4 := km1.out.c4 k hk
        have n5 := km1.out.c5 k hk
        have n6 := km1.out.c6 k hk
        have n2 := km1.out.c2 j r0
        rw [hh] at n3
        rw [hj] at n5
        go_wp2_with fail
        go_quiet (fail)
        go_wp2
        go_ret
        exact ⟨by simp, PO.out.drewN _⟩
      · have t2 : ((bnd j).toList == (wth k).toList) = false := by rw [text_beq]; simp [e2]
        obtain ⟨r6, r7, r8⟩ := r5 e1
        have HN2 := hid (fun w => knum_any (bnd j) ((bnd j).size - 4) 4 w (by unfold maxLen; omega) (by omega) (by omega))
        obtain ⟨ab, hab⟩ : ∃ ab, (bnd j).size - 4 = ab := ⟨_, rfl⟩
        have habi : ((bnd j).size : Int) - 4 = (ab : Int) := by omega
        rw [hab] at HN2 r8
        have l1 := num_lt (bnd j) ab 4
        have l2 := num_lt (wth k) aw 4
        generalize num (bnd j) ab 4 = X1 at *
        generalize num (wth k) aw 4 = X2 at *
        by_cases e3 : X1 = X2
        · have t3 : ((X1 : Int) != (X2 : Int)) = false := by simp [e3]
          generalize getAns l ky = A at *
          clear r3 r4 r5 r8 e1 e2 e3
          go_enter Try.func13, Try.ntmps13
          go_wp2_with fail
          go_region_held3 (fun w' => w'.cell? ⟨b, 0, none⟩ = some (.pointer (some ⟨x, 0, none⟩))) (first | go_keep | assumption) (first | (go_at_call 25; refine (KK.out _).mono ?_; rintro e w1 ⟨rfl, k1⟩; rw [k1]; clear k1 w1) | (go_at_call 24; refine KD.out.mono ?_; rintro e w1 ⟨rfl, b1⟩; have bw : Below w.heap.size w w1 := (Below.drew (Below.refl _ _)).trans b1; have km1 := hid (HH.out.km.below bw HH.out.sz); have k0 := km1.out.p0))
          have PO := hid (show KPost w B b x room g c F l fls w1 from ⟨F, l, bnd, rec, wth, has, by', ⟨HH.out.ps.kept bw.size (fun k q => bw.block k (HH.out.ps.lt k q)), km1.out, HH.out.inv, Nat.le_trans HH.out.sz bw.size⟩, by omega, ChgF.ofBelow bw⟩)
          have m2 : w1.cell? ⟨b, 4, none⟩ = some (.slice (some ⟨g 2, 0, none⟩) 4 (c 2)) := km1.out.sl 2 (by omega)
          have m3 : w1.cell? ⟨b, 5, none⟩ = some (.slice (some ⟨g 3, 0, none⟩) 5 (c 3)) := km1.out.sl 3 (by omega)
          have m4 : w1.cell? ⟨b, 6, none⟩ = some (.slice (some ⟨g 4, 0, none⟩) 5 (c 4)) := km1.out.sl 4 (by omega)
          have m5 : w1.cell? ⟨b, 7, none⟩ = some (.slice (some ⟨g 5, 0, none⟩) 5 (c 5)) := km1.out.sl 5 (by omega)
          have m6 : w1.cell? ⟨b, 8, none⟩ = some (.slice (some ⟨g 6, 0, none⟩) 5 (c 6)) := km1.out.sl 6 (by omega)
          have n3 := km1.out.c3 k hk
          have n4 := km1.out.c4 k hk
          have n5 := km1.out.c5 k hk
          have n6 := km1.out.c6 k hk
          have n2 := km1.out.c2 j r0
          rw [hh] at n3
          rw [hj] at n5
          go_wp2_with fail
          go_quiet (fail)
          go_wp2_with fail
          refine Calls.mono (HN2.out _) ?_
          rintro e w2 ⟨rfl, k2⟩
          rw [k2]
          clear k2 w2
          go_wp2_with fail
          refine Calls.mono (HN1.out _) ?_
          rintro e w2 ⟨rfl, k2⟩
          rw [k2]
          clear k2 w2
          go_wp2
          go_ret
          exact ⟨rfl, PO.out.drewN _⟩
        · have t3 : ((X1 : Int) != (X2 : Int)) = true := by simp; omega
          have hA := r8 e3
          rw [hA] at KD
          clear r3 r4 r5 r8 hA e1 e2 e3
          go_enter Try.func13, Try.ntmps13
          go_wp2_with fail
          go_region_held3 (fun w' => w'.cell? ⟨b, 0, none⟩ = some (.pointer (some ⟨x, 0, none⟩))) (first | go_keep | assumption) (first | (go_at_call 25; refine (KK.out _).mono ?_; rintro e w1 ⟨rfl, k1⟩; rw [k1]; clear k1 w1) | (go_at_call 24; refine KD.out.mono ?_; rintro e w1 ⟨rfl, b1⟩; have bw : Below w.heap.size w w1 := (Below.drew (Below.refl _ _)).trans b1; have km1 := hid (HH.out.km.below bw HH.out.sz); have k0 := km1.out.p0))
          have PO := hid (show KPost w B b x room g c F l fls w1 from ⟨F, l, bnd, rec, wth, has, by', ⟨HH.out.ps.kept bw.size (fun k q => bw.block k (HH.out.ps.lt k q)), km1.out, HH.out.inv, Nat.le_trans HH.out.sz bw.size⟩, by omega, ChgF.ofBelow bw⟩)
          have m2 : w1.cell? ⟨b, 4, none⟩ = some (.slice (some ⟨g 2, 0, none⟩) 4 (c 2)) := km1.out.sl 2 (by omega)
          have m3 : w1.cell? ⟨b, 5, none⟩ = some (.slice (some ⟨g 3, 0, none⟩) 5 (c 3)) := km1.out.sl 3 (by omega)
          have m4 : w1.cell? ⟨b, 6, none⟩ = some (.slice (some ⟨g 4, 0, none⟩) 5 (c 4)) := km1.out.sl 4 (by omega)
          have m5 : w1.cell? ⟨b, 7, none⟩ = some (.slice (some ⟨g 5, 0, none⟩) 5 (c 5)) := km1.out.sl 5 (by omega)
          have m6 : w1.cell? ⟨b, 8, none⟩ = some (.slice (some ⟨g 6, 0, none⟩) 5 (c 6)) := km1.out.sl 6 (by omega)
          have n3 := km1.out.c3 k hk
          have n4 := km1.out.c4 k hk
          have n5 := km1.out.c5 k hk
          have n6 := km1.out.c6 k hk
          have n2 := km1.out.c2 j r0
          rw [hh] at n3
          rw [hj] at n5
          go_wp2_with fail
          go_quiet (fail)
          go_wp2_with fail
          refine Calls.mono (HN2.out _) ?_
          rintro e w2 ⟨rfl, k2⟩
          rw [k2]
          clear k2 w2
          go_wp2_with fail
          refine Calls.mono (HN1.out _) ?_
          rintro e w2 ⟨rfl, k2⟩
          rw [k2]
          clear k2 w2
          go_wp2
          go_ret
          exact ⟨rfl, PO.out.drewN _⟩
end Go.Proofs.Ytnconbpneimjiaa

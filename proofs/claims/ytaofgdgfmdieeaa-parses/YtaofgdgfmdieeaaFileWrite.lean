/-
  P8: the walks of Write.
-/
import Derived.Test.YtaofgdgfmdieeaaFileWalk
namespace Go.Proofs.Ytaofgdgfmdieeaa
open Go.RowKit Go.PlainAid

theorem ret_sa {a b : ByteArray × Int} (h : a = b) : Ending.returned (.tuple #[.string a.1, .int .i64 a.2]) = .returned (.tuple #[.string b.1, .int .i64 b.2]) := by rw [h]
theorem isTB_size {t : ByteArray} (h : isTB t = true) : t.size ≤ 128 := by
  rcases Nat.lt_or_ge 128 t.size with c | c
  · rw [isTB_long c] at h; simp at h
  · exact c
theorem isId_any (id : Int) (w : World) :
    Calls Try.prog 54 #[.int .i64 id] w fun e w' => e = .returned (.bool (decide (0 ≤ id ∧ id ≤ 65535))) ∧ w' = w := by
  by_cases h0 : 0 ≤ id
  · by_cases h1 : id ≤ 65535
    · have e : decide (0 ≤ id ∧ id ≤ 65535) = true := by simp; omega
      rw [e]
      go_enter Try.func54, Try.ntmps54
      go_wp2
      go_ret
      exact ⟨by simp, rfl⟩
    · have e : decide (0 ≤ id ∧ id ≤ 65535) = false := by simp; omega
      rw [e]
      have h1' : decide (id ≤ 65535) = false := by simp; omega
      go_enter Try.func54, Try.ntmps54
      go_wp2
      go_ret
      exact ⟨by simp, rfl⟩
  · have e : decide (0 ≤ id ∧ id ≤ 65535) = false := by simp; omega
    rw [e]
    have h0' : decide (0 ≤ id) = false := by simp; omega
    go_enter Try.func54, Try.ntmps54
    go_wp2
    go_ret
    exact ⟨rfl, rfl⟩

set_option maxRecDepth 100000 in
set_option maxHeartbeats 800000 in
theorem fWrite_any (id : Nat) (t c : ByteArray) (w : World) (hi : id ≤ 65535) (ht : t.size ≤ 128) (hc : c.size ≤ 500) :
    Calls Try.prog 56 #[.int .i64 id, .string t, .string c] w fun e w' => e = .returned (.string (wFile id t c)) ∧ Below w.heap.size w w' := by
  have H1 := hid (fun w => wnum_any id 2 w (by omega) (by omega))
  have H2 := hid (fun w => wnum_any (t.size / 2) 1 w (by omega) (by omega))
  have H3 := hid (fun w => wnum_any c.size 2 w (by omega) (by omega))
  have H4 := hid (fun w => ofW_any (wBody id t c) w (by rw [wBody_size]; unfold maxLen; omega))
  have H5 := hid (fun w => wnum_any (wSum (wBody id t c)) 4 w (wSum_lt _) (by omega))
  have e1 : (le id 2).size = 2 := le_size _ _
  have e2 : (le (t.size / 2) 1).size = 1 := le_size _ _
  have e3 : (le c.size 2).size = 2 := le_size _ _
  have e5 : (le (wSum (wBody id t c)) 4).size = 4 := le_size _ _
  have e0 : (⟨#[71, 68, 1]⟩ : ByteArray).size = 3 := rfl
  have h7 := wSum_lt (wBody id t c)
  unfold wFile
  unfold wBody mk3 at *
  generalize le id 2 = a at *
  generalize le (t.size / 2) 1 = b at *
  generalize le c.size 2 = d at *
  generalize wSum _ = S at *
  generalize le S 4 = f at *
  go_enter Try.func56, Try.ntmps56
  go_wp2_with fail
  refine Calls.mono (H1.out _) ?_
  rintro e w1 ⟨rfl, b1⟩
  go_wp2_with fail
  refine Calls.mono (H2.out _) ?_
  rintro e w2 ⟨rfl, b2⟩
  go_wp2_with fail
  refine Calls.mono (H3.out _) ?_
  rintro e w3 ⟨rfl, b3⟩
  go_wp2_with fail
  refine Calls.mono (H4.out _) ?_
  rintro e w4 ⟨rfl, h4⟩
  rw [h4]
  clear h4 w4
  go_wp2_with fail
  refine Calls.mono (H5.out _) ?_
  rintro e w5 ⟨rfl, b5⟩
  go_wp2
  go_ret
  exact ⟨rfl, ((b1.trans (b2.mono b1.size)).trans (b3.mono (Nat.le_trans b1.size b2.size))).trans (b5.mono (Nat.le_trans (Nat.le_trans b1.size b2.size) b3.size))⟩

theorem wrAns_long {id : Int} {t c : ByteArray} (h : 500 < c.size) : wrAns id t c = (⟨#[]⟩, 1) := by unfold wrAns; rw [if_pos h]
theorem wrAns_par {id : Int} {t c : ByteArray} (h : ¬ 500 < c.size) (h2 : id < 0 ∨ 65535 < id ∨ c.size = 0) : wrAns id t c = (⟨#[]⟩, 2) := by unfold wrAns; rw [if_neg h, if_pos h2]
theorem wrAns_tab {id : Int} {t c : ByteArray} (h : ¬ 500 < c.size) (h2 : ¬ (id < 0 ∨ 65535 < id ∨ c.size = 0)) (h3 : isTB t = false) : wrAns id t c = (⟨#[]⟩, 3) := by unfold wrAns; rw [if_neg h, if_neg h2, if_pos h3]
theorem wrAns_ok {id : Int} {t c : ByteArray} (h : ¬ 500 < c.size) (h2 : ¬ (id < 0 ∨ 65535 < id ∨ c.size = 0)) (h3 : isTB t = true) : wrAns id t c = (wFile id.toNat t c, 0) := by unfold wrAns; rw [if_neg h, if_neg h2, if_neg (by rw [h3]; simp)]

set_option maxRecDepth 100000 in
set_option maxHeartbeats 800000 in
theorem write_file (id : Int) (t c : ByteArray) (w : World) (ht : t.size ≤ maxLen) (hc : c.size ≤ maxLen) :
    Calls Try.prog 28 #[.int .i64 id, .string t, .string c] w fun e w' => e = .returned (.tuple #[.string (wrAns id t c).1, .int .i64 (wrAns id t c).2]) ∧ Below w.heap.size w w' := by
  by_cases hl : 500 < c.size
  · have HA := hid (wrAns_long (id := id) (t := t) hl)
    unfold maxLen at hc
    have hl' : (500 : Int) < (c.size : Int) := by omega
    go_enter Try.func28, Try.ntmps28
    go_wp2
    go_ret2
    exact ⟨ret_sa HA.out.symm, Below.refl _ _⟩
  · have hl' : ¬ (500 : Int) < (c.size : Int) := by omega
    have HI := hid (isId_any id w)
    by_cases hi : 0 ≤ id ∧ id ≤ 65535
    · have hdi : decide (0 ≤ id ∧ id ≤ 65535) = true := by simp; omega
      rw [hdi] at HI
      clear hdi
      by_cases h0 : c.size = 0
      · have HA := hid (wrAns_par (id := id) (t := t) hl (Or.inr (Or.inr h0)))
        have h0' : ((c.size : Int) == 0) = true := by simp [h0]
        clear h0
        go_enter Try.func28, Try.ntmps28
        go_wp2_with (go_at_call 54; refine Calls.mono HI.out ?_; rintro e w' ⟨rfl, rfl⟩)
        go_ret2
        exact ⟨ret_sa HA.out.symm, Below.refl _ _⟩
      · have h0' : ((c.size : Int) == 0) = false := beq_eq_false_iff_ne.2 (by omega)
        have HT := hid (isTable_any t w ht)
        cases hT : isTB t
        · have HA := hid (wrAns_tab (id := id) (t := t) hl (by omega) hT)
          rw [hT] at HT
          clear hT h0
          go_enter Try.func28, Try.ntmps28
          go_wp2_with (first
            | (go_at_call 54; refine Calls.mono HI.out ?_; rintro e w' ⟨rfl, rfl⟩)
            | (go_at_call 55; refine Calls.mono HT.out ?_; rintro e w' ⟨rfl, rfl⟩))
          go_ret2
          exact ⟨ret_sa HA.out.symm, Below.refl _ _⟩
        · have HA := hid (wrAns_ok (id := id) (t := t) hl (by omega) hT)
          rw [hT] at HT
          have hsz := isTB_size hT
          obtain ⟨n, rfl⟩ := Int.eq_ofNat_of_zero_le hi.1
          rw [Int.toNat_natCast] at HA
          have HW := hid (fWrite_any n t c w (by omega) hsz (by omega))
          rw [HA.out]
          clear hT h0 HA
          generalize wFile n t c = F at *
          go_enter Try.func28, Try.ntmps28
          go_wp2_with (first
            | (go_at_call 54; refine Calls.mono HI.out ?_; rintro e w' ⟨rfl, rfl⟩)
            | (go_at_call 55; refine Calls.mono HT.out ?_; rintro e w' ⟨rfl, rfl⟩)
            | (go_at_call 56; refine Calls.mono HW.out ?_; rintro e w1 ⟨rfl, b1⟩))
          go_ret2
          exact ⟨rfl, b1⟩
    · have hdi : decide (0 ≤ id ∧ id ≤ 65535) = false := by simp; omega
      rw [hdi] at HI
      clear hdi
      have HA := hid (wrAns_par (id := id) (t := t) hl (by omega))
      go_enter Try.func28, Try.ntmps28
      go_wp2_with (go_at_call 54; refine Calls.mono HI.out ?_; rintro e w' ⟨rfl, rfl⟩)
      go_ret2
      exact ⟨ret_sa HA.out.symm, Below.refl _ _⟩

set_option maxRecDepth 100000 in
set_option maxHeartbeats 800000 in
theorem refWriteOk (id : Nat) (t c : ByteArray) (w : World) (hi : id ≤ 65535) (hT : isTB t = true) (h0 : 1 ≤ c.size) (hc : c.size ≤ 500) :
    Calls Try.prog 29 #[.int .i64 id, .string t, .string c] w fun e w' => e = .returned (.tuple #[.string (wFile id t c), .int .i64 0]) ∧ Below w.heap.size w w' := by
  have ht := isTB_size hT
  have H0 := hid (refIsTable_any t w (by unfold maxLen; omega))
  rw [hT] at H0
  have H1 := hid (fun w => little_any id 2 w (by omega) (by omega))
  have H2 := hid (fun w => little_any (t.size / 2) 1 w (by omega) (by omega))
  have H3 := hid (fun w => little_any c.size 2 w (by omega) (by omega))
  have H4 := hid (fun w => refSumW_any (wBody id t c) w (by rw [wBody_size]; unfold maxLen; omega))
  have H5 := hid (fun w => little_any (wSum (wBody id t c)) 4 w (wSum_lt _) (by omega))
  have e1 : (le id 2).size = 2 := le_size _ _
  have e2 : (le (t.size / 2) 1).size = 1 := le_size _ _
  have e3 : (le c.size 2).size = 2 := le_size _ _
  have e5 : (le (wSum (wBody id t c)) 4).size = 4 := le_size _ _
  have e0 : (⟨#[71, 68, 1]⟩ : ByteArray).size = 3 := rfl
  have h7 := wSum_lt (wBody id t c)
  have c1 : ¬ (500 : Int) < (c.size : Int) := by omega
  have c2 : decide ((id : Int) < 0) = false := by simp
  have c3 : decide ((65535 : Int) < (id : Int)) = false := by simp; omega
  have c4 : ((c.size : Int) == 0) = false := beq_eq_false_iff_ne.2 (by omega)
  clear hT
  unfold wFile
  unfold wBody mk3 at *
  generalize le id 2 = a at *
  generalize le (t.size / 2) 1 = b at *
  generalize le c.size 2 = d at *
  generalize wSum _ = S at *
  generalize le S 4 = f at *
  go_enter Try.func29, Try.ntmps29
  go_wp2_with fail
  refine Calls.mono H0.out ?_
  rintro e w0 ⟨rfl, n0, h0'⟩
  have b0 : Below w.heap.size w w0 := by rw [h0']; exact Below.drewN (Below.refl _ _) _
  clear h0'
  go_wp2_with fail
  refine Calls.mono (H1.out _) ?_
  rintro e w1 ⟨rfl, b1⟩
  go_wp2_with fail
  refine Calls.mono (H2.out _) ?_
  rintro e w2 ⟨rfl, b2⟩
  go_wp2_with fail
  refine Calls.mono (H3.out _) ?_
  rintro e w3 ⟨rfl, b3⟩
  go_wp2_with fail
  refine Calls.mono (H4.out _) ?_
  rintro e w4 ⟨rfl, h4⟩
  rw [h4]
  clear h4 w4
  go_wp2_with fail
  refine Calls.mono (H5.out _) ?_
  rintro e w5 ⟨rfl, b5⟩
  go_wp2
  go_ret2
  have B1 := b0.trans (b1.mono b0.size)
  have B2 := B1.trans (b2.mono B1.size)
  have B3 := B2.trans (b3.mono B2.size)
  exact ⟨rfl, B3.trans (b5.mono B3.size)⟩

set_option maxRecDepth 100000 in
set_option maxHeartbeats 800000 in
theorem refWrite_any (id : Int) (t c : ByteArray) (w : World) (ht : t.size ≤ maxLen) (hc : c.size ≤ maxLen) :
    Calls Try.prog 29 #[.int .i64 id, .string t, .string c] w fun e w' => e = .returned (.tuple #[.string (wrAns id t c).1, .int .i64 (wrAns id t c).2]) ∧ Below w.heap.size w w' := by
  by_cases hl : 500 < c.size
  · have HA := hid (wrAns_long (id := id) (t := t) hl)
    unfold maxLen at hc
    have hl' : (500 : Int) < (c.size : Int) := by omega
    go_enter Try.func29, Try.ntmps29
    go_wp2
    go_ret2
    exact ⟨ret_sa HA.out.symm, Below.refl _ _⟩
  · have hl' : ¬ (500 : Int) < (c.size : Int) := by omega
    by_cases hi : id < 0
    · have HA := hid (wrAns_par (id := id) (t := t) hl (Or.inl hi))
      go_enter Try.func29, Try.ntmps29
      go_wp2
      go_ret2
      exact ⟨ret_sa HA.out.symm, Below.refl _ _⟩
    · have c2 : decide (id < 0) = false := by simp; omega
      by_cases hj : 65535 < id
      · have HA := hid (wrAns_par (id := id) (t := t) hl (Or.inr (Or.inl hj)))
        go_enter Try.func29, Try.ntmps29
        go_wp2
        go_ret2
        exact ⟨ret_sa HA.out.symm, Below.refl _ _⟩
      · have c3 : decide (65535 < id) = false := by simp; omega
        by_cases h0 : c.size = 0
        · have HA := hid (wrAns_par (id := id) (t := t) hl (Or.inr (Or.inr h0)))
          have h0' : ((c.size : Int) == 0) = true := by simp [h0]
          clear h0
          go_enter Try.func29, Try.ntmps29
          go_wp2
          go_ret2
          exact ⟨ret_sa HA.out.symm, Below.refl _ _⟩
        · cases hT : isTB t
          · have HA := hid (wrAns_tab (id := id) (t := t) hl (by omega) hT)
            have HT := hid (refIsTable_any t w ht)
            rw [hT] at HT
            have h0' : ((c.size : Int) == 0) = false := beq_eq_false_iff_ne.2 (by omega)
            clear hT h0
            go_enter Try.func29, Try.ntmps29
            go_wp2_with fail
            refine Calls.mono HT.out ?_
            rintro e w0 ⟨rfl, n0, h0'⟩
            have b0 : Below w.heap.size w w0 := by rw [h0']; exact Below.drewN (Below.refl _ _) _
            clear h0'
            go_wp2
            go_ret2
            exact ⟨ret_sa HA.out.symm, b0⟩
          · obtain ⟨n, rfl⟩ := Int.eq_ofNat_of_zero_le (show 0 ≤ id by omega)
            rw [wrAns_ok hl (by omega) hT, Int.toNat_natCast]
            exact refWriteOk n t c w (by omega) hT (by omega) (by omega)
end Go.Proofs.Ytaofgdgfmdieeaa

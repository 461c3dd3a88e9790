/-
  P12: the walks of the document's countAt, looseOf, played.
  P12: the walks of the document's looseOf and played.
  P12: the walks of the document's played, IsHead, Decode.
  P12: the walks of the document's IsHead and Decode.
-/
import Derived.Test.YtnconbpneimjiaaGreatFrmAux
import Derived.Test.YtnconbpneimjiaaGreatFileParse
import Derived.BigQuiet
import Derived.Test.YtnconbpneimjiaaGreatUsCases
import Derived.Test.YtnconbpneimjiaaGreatRefUns
import Derived.Test.YtnconbpneimjiaaGreatRefSqz
namespace Go.Proofs.YtnconbpneimjiaaGreat
open Go.RowKit Go.PlainAid

/-! ### P12: the walks of the document's countAt, looseOf, played. -/
theorem ret_cn {q : Nat × Int} {a b : Int} (h : q = (a.toNat, b)) (h0 : 0 ≤ a) : Ending.returned (.tuple #[.int .i64 a, .int .i64 b]) = .returned (.tuple #[.int .i64 (q.1 : Int), .int .i64 q.2]) := by
  rw [h]; simp only; rw [Int.toNat_of_nonneg h0]
set_option maxRecDepth 100000 in
set_option maxHeartbeats 800000 in
theorem countAt_any (s : ByteArray) (a : Int) (w : World) (hs : s.size ≤ 2000) (ha : a ≤ 2000) :
    Calls Tryz.prog 121 #[.string s, .int .i64 a] w fun e w' => e = .returned (.tuple #[.int .i64 ((ctAt s a).1 : Int), .int .i64 (ctAt s a).2]) ∧ w' = w := by
  by_cases h0 : a < 0
  · have HE := hid (show ctAt s a = ((0 : Int).toNat, -1) from by unfold ctAt; rw [if_pos (Or.inl h0)]; rfl)
    have h0' : decide (a < 0) = true := by simp; omega
    go_enter Tryz.func121, Tryz.ntmps121
    go_wp2
    go_ret2
    exact ⟨ret_cn HE.out (by omega), rfl⟩
  · have h0' : decide (a < 0) = false := by simp; omega
    by_cases h1 : (s.size : Int) ≤ a
    · have HE := hid (show ctAt s a = ((0 : Int).toNat, -1) from by unfold ctAt; rw [if_pos (Or.inr h1)]; rfl)
      have h1' : decide ((s.size : Int) ≤ a) = true := by simp; omega
      go_enter Tryz.func121, Tryz.ntmps121
      go_wp2
      go_ret2
      exact ⟨ret_cn HE.out (by omega), rfl⟩
    · obtain ⟨p, rfl⟩ := Int.eq_ofNat_of_zero_le (show 0 ≤ a by omega)
      have hb := get_btn s
      have h1' : decide ((s.size : Int) ≤ (p : Int)) = false := by simp; omega
      have hps : p < s.size := by omega
      have hpi : (p : Int) < (s.size : Int) := by omega
      have b0 := btn_lt s p
      have b1 := btn_lt s (p + 1)
      have HC := hid (show ctAt s (p : Int) = if btn s p < 128 then (btn s p, (p : Int) + 1) else if s.size ≤ p + 1 ∨ btn s (p + 1) < 1 ∨ 127 < btn s (p + 1) then (0, -1) else (btn s p - 128 + 128 * btn s (p + 1), (p : Int) + 2) from by
        unfold ctAt; rw [if_neg (by omega), Int.toNat_natCast])
      by_cases c0 : btn s p < 128
      · rw [if_pos c0] at HC
        have c0' : (btn s p : Int) < 128 := by omega
        go_enter Tryz.func121, Tryz.ntmps121
        go_wp2
        go_ret2
        exact ⟨ret_cn (by rw [HC.out, Int.toNat_natCast]) (by omega), rfl⟩
      · rw [if_neg c0] at HC
        have c0' : ¬ (btn s p : Int) < 128 := by omega
        by_cases c1 : s.size ≤ p + 1
        · rw [if_pos (Or.inl c1)] at HC
          have c1' : decide ((s.size : Int) ≤ (p : Int) + 1) = true := by simp; omega
          go_enter Tryz.func121, Tryz.ntmps121
          go_wp2
          go_ret2
          exact ⟨ret_cn (by rw [HC.out]; rfl) (by omega), rfl⟩
        · have c1' : decide ((s.size : Int) ≤ (p : Int) + 1) = false := by simp; omega
          have hp1 : p + 1 < s.size := by omega
          by_cases c2 : btn s (p + 1) < 1
          · rw [if_pos (Or.inr (Or.inl c2))] at HC
            have c2' : decide ((btn s (p + 1) : Int) < 1) = true := by simp; omega
            go_enter Tryz.func121, Tryz.ntmps121
            go_wp2
            go_ret2
            exact ⟨ret_cn (by rw [HC.out]; rfl) (by omega), rfl⟩
          · have c2' : decide ((btn s (p + 1) : Int) < 1) = false := by simp; omega
            by_cases c3 : 127 < btn s (p + 1)
            · rw [if_pos (Or.inr (Or.inr c3))] at HC
              have c3' : decide ((127 : Int) < (btn s (p + 1) : Int)) = true := by simp; omega
              go_enter Tryz.func121, Tryz.ntmps121
              go_wp2
              go_ret2
              exact ⟨ret_cn (by rw [HC.out]; rfl) (by omega), rfl⟩
            · rw [if_neg (by omega)] at HC
              have c3' : decide ((127 : Int) < (btn s (p + 1) : Int)) = false := by simp; omega
              go_enter Tryz.func121, Tryz.ntmps121
              go_wp2
              go_ret2
              exact ⟨ret_cn (by rw [HC.out]; refine Prod.ext ?_ rfl; simp only; omega) (by omega), rfl⟩

/-! ### P12: the walks of the document's looseOf and played. -/
theorem ret_si {a b : ByteArray} {m n : Int} (h1 : a = b) (h2 : m = n) : Ending.returned (.tuple #[.string a, .int .i64 m]) = .returned (.tuple #[.string b, .int .i64 n]) := by rw [h1, h2]
theorem usAns_err {t s : ByteArray} {n : Int} (h : (usAns t s n).2 ≠ 0) : (usAns t s n).1 = ⟨#[]⟩ := by
  rcases us_cases t s n with c | c
  · exact c.2
  · exact absurd c.1 h

set_option maxRecDepth 100000 in
set_option maxHeartbeats 1600000 in
theorem looseOf_any (t b : ByteArray) (w : World) (ht : t.size ≤ maxLen) (hb : b.size ≤ 1000) :
    Calls Tryz.prog 120 #[.string t, .string b] w fun e w' => e = .returned (.tuple #[.string (lsAns t b).1, .int .i64 (lsAns t b).2]) ∧ Below w.heap.size w w' := by
  have HL := hid (show lsAns t b = (if (ctAt b 0).2 < 0 ∨ (b.size : Int) ≤ (ctAt b 0).2 ∨ 1 < btn b (ctAt b 0).2.toNat then (⟨#[]⟩, -1)
    else if btn b (ctAt b 0).2.toNat = 0 then
      if (b.size : Int) - ((ctAt b 0).2 + 1) < ((ctAt b 0).1 : Int) then (⟨#[]⟩, -1) else (b.extract ((ctAt b 0).2.toNat + 1) ((ctAt b 0).2.toNat + 1 + (ctAt b 0).1), (ctAt b 0).2 + 1 + (ctAt b 0).1)
    else if (ctAt b ((ctAt b 0).2 + 1)).2 < 0 ∨ (b.size : Int) - (ctAt b ((ctAt b 0).2 + 1)).2 < ((ctAt b ((ctAt b 0).2 + 1)).1 : Int) then (⟨#[]⟩, -1)
    else if (usAns t (b.extract (ctAt b ((ctAt b 0).2 + 1)).2.toNat ((ctAt b ((ctAt b 0).2 + 1)).2.toNat + (ctAt b ((ctAt b 0).2 + 1)).1)) ((ctAt b 0).1 : Int)).2 = 0 then
      ((usAns t (b.extract (ctAt b ((ctAt b 0).2 + 1)).2.toNat ((ctAt b ((ctAt b 0).2 + 1)).2.toNat + (ctAt b ((ctAt b 0).2 + 1)).1)) ((ctAt b 0).1 : Int)).1, (ctAt b ((ctAt b 0).2 + 1)).2 + (ctAt b ((ctAt b 0).2 + 1)).1)
    else (⟨#[]⟩, -1)) from rfl)
  have K0 := hid (countAt_any b 0 w (by omega) (by omega))
  have hbd := ctAt_bd b 0
  have hg := get_btn b
  rw [HL.out]
  clear HL
  generalize ctAt b 0 = q at *
  obtain ⟨n, a⟩ := q
  simp only at hbd K0 ⊢
  by_cases h1 : a < 0
  · rw [if_pos (Or.inl h1)]
    have h1' : decide (a < 0) = true := by simp; omega
    go_enter Tryz.func120, Tryz.ntmps120
    go_wp2_with fail
    refine Calls.mono K0.out ?_
    rintro e w1 ⟨rfl, k1⟩
    rw [k1]
    clear k1 w1
    go_wp2
    go_ret2
    exact ⟨rfl, Below.refl _ _⟩
  · obtain ⟨p, rfl⟩ := Int.eq_ofNat_of_zero_le (show 0 ≤ a by omega)
    simp only [Int.toNat_natCast]
    have h1' : decide ((p : Int) < 0) = false := by simp
    by_cases h2 : b.size ≤ p
    · rw [if_pos (Or.inr (Or.inl (by omega)))]
      have h2' : decide ((b.size : Int) ≤ (p : Int)) = true := by simp; omega
      go_enter Tryz.func120, Tryz.ntmps120
      go_wp2_with fail
      refine Calls.mono K0.out ?_
      rintro e w1 ⟨rfl, k1⟩
      rw [k1]
      clear k1 w1
      go_wp2
      go_ret2
      exact ⟨rfl, Below.refl _ _⟩
    · have h2' : decide ((b.size : Int) ≤ (p : Int)) = false := by simp; omega
      have hpb : p < b.size := by omega
      have hpi : (p : Int) < (b.size : Int) := by omega
      have b0 := btn_lt b p
      by_cases h3 : 1 < btn b p
      · rw [if_pos (Or.inr (Or.inr h3))]
        have h3' : decide ((1 : Int) < (btn b p : Int)) = true := by simp; omega
        go_enter Tryz.func120, Tryz.ntmps120
        go_wp2_with fail
        refine Calls.mono K0.out ?_
        rintro e w1 ⟨rfl, k1⟩
        rw [k1]
        clear k1 w1
        go_wp2
        go_ret2
        exact ⟨rfl, Below.refl _ _⟩
      · rw [if_neg (by omega)]
        have h3' : decide ((1 : Int) < (btn b p : Int)) = false := by simp; omega
        by_cases h4 : btn b p = 0
        · rw [if_pos h4]
          have h4' : ((btn b p : Int) == 0) = true := by simp [h4]
          clear h4
          by_cases h5 : (b.size : Int) - ((p : Int) + 1) < (n : Int)
          · rw [if_pos h5]
            go_enter Tryz.func120, Tryz.ntmps120
            go_wp2_with fail
            refine Calls.mono K0.out ?_
            rintro e w1 ⟨rfl, k1⟩
            rw [k1]
            clear k1 w1
            go_wp2
            go_ret2
            exact ⟨rfl, Below.refl _ _⟩
          · rw [if_neg h5]
            have h5' : decide ((b.size : Int) - ((p : Int) + 1) < (n : Int)) = false := by simp; omega
            go_enter Tryz.func120, Tryz.ntmps120
            go_wp2_with fail
            refine Calls.mono K0.out ?_
            rintro e w1 ⟨rfl, k1⟩
            rw [k1]
            clear k1 w1
            go_wp2
            go_ret2
            exact ⟨rfl, Below.refl _ _⟩
        · rw [if_neg h4]
          have h4' : ((btn b p : Int) == 0) = false := beq_eq_false_iff_ne.2 (by omega)
          clear h4
          have K1 := hid (countAt_any b ((p : Int) + 1) w (by omega) (by omega))
          have hbd1 := ctAt_bd b ((p : Int) + 1)
          generalize ctAt b ((p : Int) + 1) = q1 at *
          obtain ⟨m, a1⟩ := q1
          simp only at hbd1 K1 ⊢
          by_cases h6 : a1 < 0
          · rw [if_pos (Or.inl h6)]
            have h6' : decide (a1 < 0) = true := by simp; omega
            go_enter Tryz.func120, Tryz.ntmps120
            go_wp2_with fail
            refine Calls.mono K0.out ?_
            rintro e w1 ⟨rfl, k1⟩
            rw [k1]
            clear k1 w1
            go_wp2_with fail
            refine Calls.mono K1.out ?_
            rintro e w1 ⟨rfl, k1⟩
            rw [k1]
            clear k1 w1
            go_wp2
            go_ret2
            exact ⟨rfl, Below.refl _ _⟩
          · obtain ⟨p1, rfl⟩ := Int.eq_ofNat_of_zero_le (show 0 ≤ a1 by omega)
            simp only [Int.toNat_natCast]
            have h6' : decide ((p1 : Int) < 0) = false := by simp
            by_cases h7 : (b.size : Int) - (p1 : Int) < (m : Int)
            · rw [if_pos (Or.inr h7)]
              have h7' : decide ((b.size : Int) - (p1 : Int) < (m : Int)) = true := by simp; omega
              go_enter Tryz.func120, Tryz.ntmps120
              go_wp2_with fail
              refine Calls.mono K0.out ?_
              rintro e w1 ⟨rfl, k1⟩
              rw [k1]
              clear k1 w1
              go_wp2_with fail
              refine Calls.mono K1.out ?_
              rintro e w1 ⟨rfl, k1⟩
              rw [k1]
              clear k1 w1
              go_wp2
              go_ret2
              exact ⟨rfl, Below.refl _ _⟩
            · rw [if_neg (by omega)]
              have h7' : decide ((b.size : Int) - (p1 : Int) < (m : Int)) = false := by simp; omega
              have hpm : p1 + m ≤ b.size := by omega
              have K2 := hid (refUns_any t (b.extract p1 (p1 + m)) (n : Int) w ht (by rw [ext_size _ _ _ hpm]; unfold maxLen; omega))
              generalize usAns t (b.extract p1 (p1 + m)) (n : Int) = U at *
              obtain ⟨us, ue⟩ := U
              simp only at K2 ⊢
              by_cases h8 : ue = 0
              · rw [if_pos h8]
                have h8' : (ue != 0) = false := by simp [h8]
                clear h8
                go_enter Tryz.func120, Tryz.ntmps120
                go_wp2_with fail
                refine Calls.mono K0.out ?_
                rintro e w1 ⟨rfl, k1⟩
                rw [k1]
                clear k1 w1
                go_wp2_with fail
                refine Calls.mono K1.out ?_
                rintro e w1 ⟨rfl, k1⟩
                rw [k1]
                clear k1 w1
                go_wp2_with fail
                refine Calls.mono K2.out ?_
                rintro e w1 ⟨rfl, b1⟩
                go_wp2
                go_ret2
                exact ⟨rfl, b1⟩
              · rw [if_neg h8]
                have h8' : (ue != 0) = true := by simp [h8]
                clear h8
                go_enter Tryz.func120, Tryz.ntmps120
                go_wp2_with fail
                refine Calls.mono K0.out ?_
                rintro e w1 ⟨rfl, k1⟩
                rw [k1]
                clear k1 w1
                go_wp2_with fail
                refine Calls.mono K1.out ?_
                rintro e w1 ⟨rfl, k1⟩
                rw [k1]
                clear k1 w1
                go_wp2_with fail
                refine Calls.mono K2.out ?_
                rintro e w1 ⟨rfl, b1⟩
                go_wp2
                go_ret2
                exact ⟨rfl, b1⟩
theorem lsAns_size (t b : ByteArray) (hb : b.size ≤ 1000) : (lsAns t b).1.size ≤ 1000 ∧ (lsAns t b).2 ≤ 1000 := by
  have e0 : (⟨#[]⟩ : ByteArray).size = 0 := rfl
  have h0 := ctAt_bd b 0
  unfold lsAns
  generalize ctAt b 0 = q at *
  obtain ⟨n, a⟩ := q
  simp only at h0 ⊢
  split
  · exact ⟨by simp [e0], by simp⟩
  · split
    · split
      · exact ⟨by simp [e0], by simp⟩
      · refine ⟨?_, by simp only; omega⟩
        simp only
        rw [ByteArray.size_extract]; omega
    · have h1 := ctAt_bd b (a + 1)
      generalize ctAt b (a + 1) = q1 at *
      obtain ⟨m, a1⟩ := q1
      simp only at h1 ⊢
      split
      · exact ⟨by simp [e0], by simp⟩
      · split
        · rename_i hus
          rcases us_cases t (b.extract a1.toNat (a1.toNat + m)) (n : Int) with c | c
          · exact absurd hus c.1
          · exact ⟨by have := c.2.2.2.2; simp only; omega, by simp only; omega⟩
        · exact ⟨by simp [e0], by simp⟩

/-! ### P12: the walks of the document's played, IsHead, Decode. -/
/-- What played hands back: the record, or that there is none. -/
def plRel (o : Option ByteArray) (e : Ending) : Prop := ∃ rr bb, e = .returned (.tuple #[.string rr, .bool bb]) ∧ ((bb = true ∧ o = some rr) ∨ (bb = false ∧ o = none))
theorem plRel_no {o : Option ByteArray} (h : o = none) : plRel o (.returned (.tuple #[.string ⟨#[]⟩, .bool false])) := ⟨_, _, rfl, .inr ⟨rfl, h⟩⟩

set_option maxRecDepth 100000 in
set_option maxHeartbeats 3200000 in
theorem played_any (t c b : ByteArray) (size : Nat) (w : World) (ht : t.size ≤ maxLen) (hc : c.size ≤ 500) (hb : b.size ≤ 1000) (hsz : size ≤ 500) :
    Calls Tryz.prog 90 #[.string t, .string c, .string b, .int .i64 size] w fun e w' => plRel (plAns t c b size) e ∧ Below w.heap.size w w' := by
  have hcv := conv_one
  have K0 := hid (looseOf_any t b w ht hb)
  have hls := lsAns_size t b hb
  have HP := hid (plAns_is t c b size)
  generalize lsAns t b = q at *
  obtain ⟨lo, a0⟩ := q
  simp only at hls K0 HP
  have K1 := hid (fun w => countAt_any b a0 w (by omega) (by omega))
  have hbd := ctAt_bd b a0
  generalize ctAt b a0 = q at *
  obtain ⟨n, a1⟩ := q
  simp only at hbd K1 HP
  have HCT := hid (fun a (h : a ≤ 2000) w => countAt_any b a w (by omega) h)
  have HBD := hid (fun a => ctAt_bd b a)
  rw [HP.out]
  clear HP
  generalize hlim : c.size + size = lim at *
  have HLIM := hid hlim
  obtain ⟨O, hO⟩ : ∃ O, plEnd c b size (plS b lim n a1 c lo) = O := ⟨_, rfl⟩
  have HO := hid hO.symm
  rw [hO]
  clear hO hlim
  go_enter Tryz.func90, Tryz.ntmps90
  go_wp2_with fail
  refine Calls.mono K0.out ?_
  rintro e w1 ⟨rfl, b1⟩
  go_wp2_with fail
  refine Calls.mono (K1.out _) ?_
  rintro e w2 ⟨rfl, k2⟩
  rw [k2]
  clear k2 w2
  go_wp2_with fail
  go_loopw [10, 11, 13, 14, 15, 16, 17, 18, 19, 20, 21, 22] (fun lv av Av iv _ _ _ _ _ _ _ _ wr => ∃ (i m : Nat) (a : Int) (A L : ByteArray), lv = .string L ∧ av = .int .i64 a ∧ Av = .string A ∧ iv = .int .i64 i ∧ i + m = n ∧ a ≤ 1000 ∧ -1 ≤ a ∧ c.size ≤ A.size ∧ A.size ≤ 1004 ∧ L.size ≤ 1000 ∧ O = plEnd c b size (plS b lim m a A L) ∧ Below w.heap.size w wr) (fun _ _ _ iv _ _ _ _ _ _ _ _ _ => n - (intOf iv).toNat)
  case atStart => exact ⟨0, n, a1, c, lo, rfl, rfl, rfl, rfl, by omega, by omega, by omega, Nat.le_refl _, by omega, hls.1, HO.out, b1⟩
  case round =>
    obtain ⟨i, m, a, A, L, rfl, rfl, rfl, rfl, him, ha1, ha0, hA1, hA2, hL, hOO, hbel⟩ := hrel
    have HOO := hid hOO
    have hwsz := hbel.size
    have HIM := hid him
    clear hOO
    by_cases hin : i < n
    · obtain ⟨m', rfl⟩ : ∃ m', m = m' + 1 := ⟨m - 1, by omega⟩
      have HS := hid (show plS b lim (m' + 1) a A L = (if (ctAt b (ctAt b (ctAt b a).2).2).2 < 0 ∨ L.size < (ctAt b a).1 then none
        else if (ctAt b (ctAt b (ctAt b a).2).2).1 < 1 ∨ A.size + (ctAt b a).1 < (ctAt b (ctAt b (ctAt b a).2).2).1 ∨ lim < A.size + (ctAt b a).1 + (ctAt b (ctAt b a).2).1 then none
        else plS b lim m' (ctAt b (ctAt b (ctAt b a).2).2).2 (cpy (A ++ L.extract 0 (ctAt b a).1) (ctAt b (ctAt b (ctAt b a).2).2).1 ((ctAt b (ctAt b a).2).1 + 4)) (L.extract (ctAt b a).1 L.size)) from rfl)
      have d1 := HBD.out a
      have R1 := hid (HCT.out a (by omega))
      generalize ctAt b a = q1 at *
      obtain ⟨x1, p1⟩ := q1
      simp only at d1 R1 HS
      have d2 := HBD.out p1
      have R2 := hid (HCT.out p1 (by omega))
      generalize ctAt b p1 = q2 at *
      obtain ⟨x2, p2⟩ := q2
      simp only at d2 R2 HS
      have d3 := HBD.out p2
      have R3 := hid (HCT.out p2 (by omega))
      generalize ctAt b p2 = q3 at *
      obtain ⟨x3, p3⟩ := q3
      simp only at d3 R3 HS
      rw [HS.out] at HOO
      clear HS
      have hin' : decide (i < n) = true := by simp; omega
      by_cases e1 : p3 < 0
      · rw [if_pos (Or.inl e1)] at HOO
        have e1' : decide (p3 < 0) = true := by simp; omega
        go_wp2_with fail
        refine Calls.mono (R1.out _) ?_
        rintro e w2 ⟨rfl, k2⟩
        rw [k2]
        clear k2 w2
        go_wp2_with fail
        refine Calls.mono (R2.out _) ?_
        rintro e w2 ⟨rfl, k2⟩
        rw [k2]
        clear k2 w2
        go_wp2_with fail
        refine Calls.mono (R3.out _) ?_
        rintro e w2 ⟨rfl, k2⟩
        rw [k2]
        clear k2 w2
        go_wp2
        go_ret2
        exact ⟨plRel_no (by rw [HOO.out]; rfl), hbel⟩
      · have e1' : decide (p3 < 0) = false := by simp; omega
        by_cases e2 : L.size < x1
        · rw [if_pos (Or.inr e2)] at HOO
          have e2' : decide ((L.size : Int) < (x1 : Int)) = true := by simp; omega
          have e2n : L.size < x1 := e2
          go_wp2_with fail
          refine Calls.mono (R1.out _) ?_
          rintro e w2 ⟨rfl, k2⟩
          rw [k2]
          clear k2 w2
          go_wp2_with fail
          refine Calls.mono (R2.out _) ?_
          rintro e w2 ⟨rfl, k2⟩
          rw [k2]
          clear k2 w2
          go_wp2_with fail
          refine Calls.mono (R3.out _) ?_
          rintro e w2 ⟨rfl, k2⟩
          rw [k2]
          clear k2 w2
          go_wp2
          go_ret2
          exact ⟨plRel_no (by rw [HOO.out]; rfl), hbel⟩
        · rw [if_neg (by omega)] at HOO
          have e2' : decide ((L.size : Int) < (x1 : Int)) = false := by simp; omega
          have e2n : ¬ L.size < x1 := e2
          have hx1 : x1 ≤ L.size := by omega
          have hL0 : (L.extract 0 x1).size = x1 := by rw [ext_size _ _ _ hx1]; omega
          have hL1 : (L.extract x1 L.size).size = L.size - x1 := by rw [ext_size _ _ _ (Nat.le_refl _)]
          have hXs : (A ++ L.extract 0 x1).size = A.size + x1 := by rw [ByteArray.size_append, hL0]
          have hlm := HLIM.out
          by_cases e3 : x3 < 1
          · rw [if_pos (Or.inl e3)] at HOO
            have e3' : decide ((x3 : Int) < 1) = true := by simp; omega
            go_wp2_with fail
            refine Calls.mono (R1.out _) ?_
            rintro e w2 ⟨rfl, k2⟩
            rw [k2]
            clear k2 w2
            go_wp2_with fail
            refine Calls.mono (R2.out _) ?_
            rintro e w2 ⟨rfl, k2⟩
            rw [k2]
            clear k2 w2
            go_wp2_with fail
            refine Calls.mono (R3.out _) ?_
            rintro e w2 ⟨rfl, k2⟩
            rw [k2]
            clear k2 w2
            go_wp2
            go_ret2
            exact ⟨plRel_no (by rw [HOO.out]; rfl), hbel⟩
          · have e3' : decide ((x3 : Int) < 1) = false := by simp; omega
            by_cases e4 : A.size + x1 < x3
            · rw [if_pos (Or.inr (Or.inl e4))] at HOO
              have e4' : decide ((A.size : Int) + (x1 : Int) < (x3 : Int)) = true := by simp; omega
              go_wp2_with fail
              refine Calls.mono (R1.out _) ?_
              rintro e w2 ⟨rfl, k2⟩
              rw [k2]
              clear k2 w2
              go_wp2_with fail
              refine Calls.mono (R2.out _) ?_
              rintro e w2 ⟨rfl, k2⟩
              rw [k2]
              clear k2 w2
              go_wp2_with fail
              refine Calls.mono (R3.out _) ?_
              rintro e w2 ⟨rfl, k2⟩
              rw [k2]
              clear k2 w2
              go_wp2
              go_ret2
              exact ⟨plRel_no (by rw [HOO.out]; rfl), hbel⟩
            · have e4' : decide ((A.size : Int) + (x1 : Int) < (x3 : Int)) = false := by simp; omega
              by_cases e5 : lim < A.size + x1 + x2
              · rw [if_pos (Or.inr (Or.inr e5))] at HOO
                have e5' : decide ((c.size : Int) + (size : Int) < (A.size : Int) + (x1 : Int) + (x2 : Int)) = true := by simp; omega
                go_wp2_with fail
                refine Calls.mono (R1.out _) ?_
                rintro e w2 ⟨rfl, k2⟩
                rw [k2]
                clear k2 w2
                go_wp2_with fail
                refine Calls.mono (R2.out _) ?_
                rintro e w2 ⟨rfl, k2⟩
                rw [k2]
                clear k2 w2
                go_wp2_with fail
                refine Calls.mono (R3.out _) ?_
                rintro e w2 ⟨rfl, k2⟩
                rw [k2]
                clear k2 w2
                go_wp2
                go_ret2
                exact ⟨plRel_no (by rw [HOO.out]; rfl), hbel⟩
              · rw [if_neg (by omega)] at HOO
                have e5' : decide ((c.size : Int) + (size : Int) < (A.size : Int) + (x1 : Int) + (x2 : Int)) = false := by simp; omega
                go_wp2_with fail
                refine Calls.mono (R1.out _) ?_
                rintro e w2 ⟨rfl, k2⟩
                rw [k2]
                clear k2 w2
                go_wp2_with fail
                refine Calls.mono (R2.out _) ?_
                rintro e w2 ⟨rfl, k2⟩
                rw [k2]
                clear k2 w2
                go_wp2_with fail
                refine Calls.mono (R3.out _) ?_
                rintro e w2 ⟨rfl, k2⟩
                rw [k2]
                clear k2 w2
                have HX := hid (show cpy (A ++ L.extract 0 x1) x3 0 = A ++ L.extract 0 x1 from rfl)
                have HCS := hid (fun k => show cpy (A ++ L.extract 0 x1) x3 (k + 1) = cpy (A ++ L.extract 0 x1) x3 k ++ strN [btn (cpy (A ++ L.extract 0 x1) x3 k) ((cpy (A ++ L.extract 0 x1) x3 k).size - x3)] from rfl)
                have HCZ := hid (fun k => cpy_size (A ++ L.extract 0 x1) x3 k)
                generalize cpy (A ++ L.extract 0 x1) x3 = CP at *
                obtain ⟨wo, hwo⟩ : ∃ wo, wo = wr := ⟨wr, rfl⟩
                have HBL := hid hbel
                clear hbel
                go_wp2_with fail
                go_loopw [13, 21, 22] (fun Av kv _ wi => ∃ k : Nat, k ≤ x2 + 4 ∧ kv = .int .i64 k ∧ Av = .string (CP k) ∧ Below w.heap.size w wi) (fun _ kv _ _ => x2 + 4 - (intOf kv).toNat)
                case atStart => exact ⟨0, Nat.zero_le _, rfl, by rw [HX.out], HBL.out⟩
                case round =>
                  obtain ⟨k, hk, rfl, rfl, hbel⟩ := hrel
                  have hY := HCZ.out k
                  rw [hXs] at hY
                  have hwz := hbel.size
                  have HST := hid (HCS.out k)
                  by_cases hkx : k < x2 + 4
                  · have hkd : decide ((k : Int) < (x2 : Int) + 4) = true := by simp; omega
                    have hgY := get_btn (CP k)
                    have hone : ∀ x, (strOfNums [x]).size = 1 := fun x => by rw [strOfNums_size]; rfl
                    obtain ⟨j, hj⟩ : ∃ j : Nat, (CP k).size - x3 = j := ⟨_, rfl⟩
                    rw [hj] at HST
                    have hji : ((A.size : Int) + (x1 : Int) + (k : Int)) - (x3 : Int) = (j : Int) := by omega
                    have hjY : j < (CP k).size := by omega
                    have bj := btn_lt (CP k) j
                    have hYi : ((CP k).size : Int) = (A.size : Int) + (x1 : Int) + (k : Int) := by omega
                    clear hY hj
                    generalize CP k = Y at *
                    go_wp2
                    go_roundw
                    case rel => exact ⟨k + 1, by omega, by go_num, by rw [HST.out]; rfl, hbel.alloc hwz _⟩
                    case measure => simp [intOf]; omega
                  · have HK := hid (show k = x2 + 4 from by omega)
                    have hkd : decide ((k : Int) < (x2 : Int) + 4) = false := by simp; omega
                    rw [← HK.out] at HOO
                    go_wp2
                    go_roundw
                    case rel => exact ⟨i + 1, m', p3, CP k, L.extract x1 L.size, rfl, rfl, rfl, by go_num, by have := HIM.out; omega, by omega, by omega, by omega, by omega, by omega, HOO.out, hbel⟩
                    case measure => simp [intOf]; omega
    · have HM := hid (show m = 0 from by omega)
      rw [HM.out] at HOO
      have hin' : ¬ i < n := hin
      have HE := hid (show O = if a = (b.size : Int) ∧ (A ++ L).size = c.size + size then some ((A ++ L).extract c.size (A ++ L).size) else none from HOO.out)
      have hAL : (A ++ L).size = A.size + L.size := ByteArray.size_append
      clear HOO HM him
      have hcA : (c.size : Int) ≤ (A.size : Int) + (L.size : Int) := by omega
      rw [hAL] at HE
      by_cases q1 : a = (b.size : Int)
      · have q1' : (a == (b.size : Int)) = true := by simp [q1]
        by_cases q2 : A.size + L.size = c.size + size
        · rw [if_pos ⟨q1, q2⟩] at HE
          have q2' : (((A.size + L.size - c.size : Nat) : Int) == (size : Int)) = true := by simp; omega
          have Q2 := hid q2'
          clear q1 q2
          go_wp2
          go_ret2
          exact ⟨⟨_, _, rfl, .inl ⟨by first | exact Q2.out | rfl, HE.out⟩⟩, hbel⟩
        · rw [if_neg (fun h => q2 h.2)] at HE
          have q2' : (((A.size + L.size - c.size : Nat) : Int) == (size : Int)) = false := beq_eq_false_iff_ne.2 (by omega)
          have Q2 := hid q2'
          clear q1 q2
          go_wp2
          go_ret2
          exact ⟨⟨_, _, rfl, .inr ⟨by first | exact Q2.out | rfl, HE.out⟩⟩, hbel⟩
      · rw [if_neg (fun h => q1 h.1)] at HE
        have q1' : (a == (b.size : Int)) = false := beq_eq_false_iff_ne.2 q1
        clear q1
        go_wp2
        go_ret2
        exact ⟨⟨_, _, rfl, .inr ⟨by first | rfl | simp, HE.out⟩⟩, hbel⟩

/-! ### P12: the walks of the document's IsHead and Decode. -/
theorem plAns_size {t c b : ByteArray} {size : Nat} {r : ByteArray} (h : plAns t c b size = some r) : r.size = size := by
  rw [plAns_is] at h
  generalize plS b (c.size + size) (ctAt b (lsAns t b).2).1 (ctAt b (lsAns t b).2).2 c (lsAns t b).1 = o at h
  cases o with
  | none => simp [plEnd] at h
  | some q =>
    obtain ⟨a, A, L⟩ := q
    rw [plEnd_some] at h
    split at h
    · rename_i hq
      simp only [Option.some.injEq] at h
      rw [← h, ext_size _ _ _ (Nat.le_refl _), hq.2]; omega
    · simp at h
set_option maxRecDepth 100000 in
set_option maxHeartbeats 400000 in
theorem isHead_any (g : ByteArray) (w : World) (hg : g.size ≤ maxLen) :
    Calls Tryz.prog 65 #[.string g] w fun e w' => e = .returned (.bool (hdB g)) ∧ w' = w := by
  have hb := get_btn g
  have b0 := btn_lt g 0
  have b1 := btn_lt g 1
  by_cases h1 : g.size < 14
  · have HE := hid (show hdB g = false from by unfold hdB; rw [decide_eq_false_iff_not]; omega)
    have h1' : decide ((g.size : Int) < 14) = true := by simp; omega
    go_enter Tryz.func65, Tryz.ntmps65
    go_wp2
    go_ret
    exact ⟨retB HE.out.symm, rfl⟩
  · have h1' : decide ((g.size : Int) < 14) = false := by simp; omega
    have hgs : 14 ≤ g.size := by omega
    by_cases h2 : btn g 0 = 70
    · have h2' : ((btn g 0 : Int) != 70) = false := by simp [h2]
      have H2 := hid h2
      clear h2
      by_cases h3 : 1 < btn g 1
      · have HE := hid (show hdB g = false from by unfold hdB; rw [decide_eq_false_iff_not]; omega)
        have h3' : decide ((1 : Int) < (btn g 1 : Int)) = true := by simp; omega
        unfold maxLen at hg
        go_enter Tryz.func65, Tryz.ntmps65
        go_wp2
        go_ret
        exact ⟨retB HE.out.symm, rfl⟩
      · have h3' : decide ((1 : Int) < (btn g 1 : Int)) = false := by simp; omega
        have HN := hid (fun w => refNumber_any g 8 2 w hg (by omega) (by omega))
        have hn := num_lt g 8 2
        have HE := hid (show hdB g = decide (num g 8 2 ≤ 500) from by
          unfold hdB
          have := H2.out
          rw [Bool.eq_iff_iff, decide_eq_true_iff, decide_eq_true_iff]; omega)
        unfold maxLen at hg
        generalize num g 8 2 = N at *
        go_enter Tryz.func65, Tryz.ntmps65
        go_wp2_with fail
        refine Calls.mono (HN.out _) ?_
        rintro e w2 ⟨rfl, k2⟩
        rw [k2]
        clear k2 w2
        go_wp2
        go_ret
        exact ⟨retB (by rw [HE.out, Bool.eq_iff_iff]; simp; omega), rfl⟩
    · have HE := hid (show hdB g = false from by unfold hdB; rw [decide_eq_false_iff_not]; omega)
      have h2' : ((btn g 0 : Int) != 70) = true := by simp; omega
      clear h2
      unfold maxLen at hg
      go_enter Tryz.func65, Tryz.ntmps65
      go_wp2
      go_ret
      exact ⟨retB HE.out.symm, rfl⟩

theorem dc_long {f g : ByteArray} (h : 1000 < g.size) : dcAns f g = (⟨#[]⟩, 1) := by unfold dcAns; rw [if_pos h]
theorem dc_file {f g : ByteArray} (h : ¬ 1000 < g.size) (h2 : ¬ pOk f) : dcAns f g = (⟨#[]⟩, 6) := by
  have : pOkB f = false := by
    cases hq : pOkB f
    · rfl
    · exact absurd ((pOkB_iff f).1 hq) h2
  unfold dcAns; rw [if_neg h, if_pos this]
theorem dc_on {f g : ByteArray} (h : ¬ 1000 < g.size) (h2 : pOk f) : dcAns f g = ((if hdB g = false then (⟨#[]⟩, 7) else if num g 2 2 ≠ num f 3 2 then (⟨#[]⟩, 8)
    else if g.extract 4 8 ≠ f.extract (f.size - 4) f.size then (⟨#[]⟩, 9)
    else match dcBody f g with
      | none => (⟨#[]⟩, 7)
      | some r => if wSum r = num g 10 4 then (r, 0) else (⟨#[]⟩, 10)) : ByteArray × Int) := by
  unfold dcAns; rw [if_neg h, if_neg (by rw [(pOkB_iff f).2 h2]; simp)]
  rfl

set_option maxRecDepth 100000 in
set_option maxHeartbeats 1600000 in
theorem refDecode_any (f g : ByteArray) (w : World) (hf : f.size ≤ maxLen) (hg : g.size ≤ maxLen) :
    Calls Tryz.prog 52 #[.string f, .string g] w fun e w' => e = .returned (.tuple #[.string (dcAns f g).1, .int .i64 (dcAns f g).2]) ∧ Below w.heap.size w w' := by
  by_cases hl : 1000 < g.size
  · have HA := hid (dc_long (f := f) hl)
    unfold maxLen at hg
    have hl' : (1000 : Int) < (g.size : Int) := by omega
    rw [HA.out]
    go_enter Tryz.func52, Tryz.ntmps52
    go_wp2
    go_ret2
    exact ⟨rfl, Below.refl _ _⟩
  · have hl' : ¬ (1000 : Int) < (g.size : Int) := by omega
    have HP := hid (fun w => refParse_any f w hf)
    by_cases h : pOk f
    · have HA := hid (dc_on hl h)
      obtain ⟨hcz, hf13⟩ := pOk_con h
      have htz : (pAns f).2.1.size ≤ maxLen := (par_cases f).elim (fun q => by rw [pAns_yes h] at q; simp at q) (fun q => q.2.2.2.1)
      have hn := num_lt f 3 2
      have HPA := hid (show pAns f = ((num f 3 2 : Int), (pAns f).2.1, (pAns f).2.2.1, 0) from by rw [pAns_yes h])
      rw [HPA.out] at HP
      simp only [parV] at HP
      have HH := hid (fun w => isHead_any g w hg)
      have HDC := hid (show dcBody f g = if btn g 1 = 1 then plAns (pAns f).2.1 (pAns f).2.2.1 (g.extract 14 g.size) (num g 8 2) else if g.size = 14 + num g 8 2 then some (g.extract 14 g.size) else none from rfl)
      obtain ⟨q, hq⟩ : ∃ q, f.size - 4 = q := ⟨_, rfl⟩
      rw [hq] at HA
      have hqi : (f.size : Int) - 4 = (q : Int) := by omega
      have hq2 : q ≤ f.size := by omega
      unfold maxLen at hf
      clear HPA h hq
      cases hh : hdB g
      · rw [hh, if_pos rfl] at HA
        rw [hh] at HH
        rw [HA.out]
        clear hh
        go_enter Tryz.func52, Tryz.ntmps52
        go_wp2_with fail
        refine Calls.mono (HP.out _) ?_
        rintro e w0 ⟨rfl, b0⟩
        go_wp2_with fail
        refine Calls.mono (HH.out _) ?_
        rintro e w2 ⟨rfl, k2⟩
        rw [k2]
        clear k2 w2
        go_wp2
        go_ret2
        exact ⟨rfl, b0⟩
      · have hd := hh
        unfold hdB at hd
        rw [decide_eq_true_iff] at hd
        obtain ⟨g14, g0, g1, g8⟩ := hd
        rw [hh, if_neg (by simp)] at HA
        rw [hh] at HH
        have N2 := hid (fun w => refNumber_any g 2 2 w hg (by omega) (by omega))
        have N8 := hid (fun w => refNumber_any g 8 2 w hg (by omega) (by omega))
        have N10 := hid (fun w => refNumber_any g 10 4 w hg (by omega) (by omega))
        have m2 := num_lt g 2 2
        have m10 := num_lt g 10 4
        have hgb := get_btn g
        have hbe := text_beq (g.extract 4 8) (f.extract q f.size)
        have hex : (g.extract 14 g.size).size = g.size - 14 := ext_size _ _ _ (Nat.le_refl _)
        have KP := hid (fun w => played_any (pAns f).2.1 (pAns f).2.2.1 (g.extract 14 g.size) (num g 8 2) w htz hcz (by omega) g8)
        have HPS := hid (fun r (hr : plAns (pAns f).2.1 (pAns f).2.2.1 (g.extract 14 g.size) (num g 8 2) = some r) => plAns_size hr)
        have HSR := hid (fun (r : ByteArray) (hr : r.size ≤ 1000) w => refSumW_any r w (by unfold maxLen; omega))
        have HSL := hid (fun r : ByteArray => wSum_lt r)
        clear hh g0 htz hcz
        generalize plAns (pAns f).2.1 (pAns f).2.2.1 (g.extract 14 g.size) (num g 8 2) = PA at *
        generalize (pAns f).2.1 = T at *
        generalize (pAns f).2.2.1 = C at *
        generalize num f 3 2 = NF at *
        generalize num g 2 2 = NG at *
        generalize num g 8 2 = SZ at *
        generalize num g 10 4 = WS at *
        unfold maxLen at hg
        have hg14 : (14 : Int) ≤ (g.size : Int) := by omega
        have hg8 : (8 : Int) ≤ (g.size : Int) := by omega
        by_cases k8 : NG = NF
        · rw [if_neg (by simp [k8])] at HA
          have k8' : ((NG : Int) != (NF : Int)) = false := by simp [k8]
          clear k8
          by_cases k9 : g.extract 4 8 = f.extract q f.size
          · rw [if_neg (by simp [k9])] at HA
            have k9' : ((g.extract 4 8).toList == (f.extract q f.size).toList) = true := by rw [hbe]; simp [k9]
            clear k9 hbe
            by_cases k1 : btn g 1 = 1
            · rw [if_pos k1] at HDC
              have k1' : ((btn g 1 : Int) == 1) = true := by simp [k1]
              clear k1
              rw [HDC.out] at HA
              cases hPA : PA with
              | none =>
                rw [hPA] at HA KP
                rw [HA.out]
                clear HPS
                go_enter Tryz.func52, Tryz.ntmps52
                go_wp2_with fail
                refine Calls.mono (HP.out _) ?_
                rintro e w0 ⟨rfl, b0⟩
                go_wp2_with fail
                refine Calls.mono (HH.out _) ?_
                rintro e w2 ⟨rfl, k2⟩
                rw [k2]
                clear k2 w2
                go_wp2_with fail
                refine Calls.mono (N2.out _) ?_
                rintro e w2 ⟨rfl, k2⟩
                rw [k2]
                clear k2 w2
                go_wp2_with fail
                go_quiet (fail)
                go_wp2_with fail
                refine Calls.mono (N8.out _) ?_
                rintro e w2 ⟨rfl, k2⟩
                rw [k2]
                clear k2 w2
                go_wp2_with fail
                refine Calls.mono (KP.out _) ?_
                rintro e w3 ⟨⟨rr, bb, rfl, hrr⟩, b3⟩
                obtain ⟨rfl, -⟩ : bb = false ∧ True := by
                  rcases hrr with q | q
                  · simp at q
                  · exact ⟨q.1, trivial⟩
                clear hrr
                go_wp2
                go_ret2
                have B0 := Below.drewN b0 nq
                exact ⟨rfl, B0.trans (b3.mono B0.size)⟩
              | some r =>
                rw [hPA] at HA KP
                have hrs := HPS.out r hPA
                have KS := hid (HSR.out r (by omega))
                have hws := HSL.out r
                simp only at HA
                clear HPS hPA
                by_cases kS : wSum r = WS
                · rw [if_pos kS] at HA
                  have kS' : ((wSum r : Int) != (WS : Int)) = false := by simp [kS]
                  clear kS
                  rw [HA.out]
                  generalize wSum r = SR at *
                  go_enter Tryz.func52, Tryz.ntmps52
                  go_wp2_with fail
                  refine Calls.mono (HP.out _) ?_
                  rintro e w0 ⟨rfl, b0⟩
                  go_wp2_with fail
                  refine Calls.mono (HH.out _) ?_
                  rintro e w2 ⟨rfl, k2⟩
                  rw [k2]
                  clear k2 w2
                  go_wp2_with fail
                  refine Calls.mono (N2.out _) ?_
                  rintro e w2 ⟨rfl, k2⟩
                  rw [k2]
                  clear k2 w2
                  go_wp2_with fail
                  go_quiet (fail)
                  go_wp2_with fail
                  refine Calls.mono (N8.out _) ?_
                  rintro e w2 ⟨rfl, k2⟩
                  rw [k2]
                  clear k2 w2
                  go_wp2_with fail
                  refine Calls.mono (KP.out _) ?_
                  rintro e w3 ⟨⟨rr, bb, rfl, hrr⟩, b3⟩
                  obtain ⟨rfl, rfl⟩ : bb = true ∧ r = rr := by
                    rcases hrr with q | q
                    · exact ⟨q.1, by simpa using q.2⟩
                    · simp at q
                  clear hrr
                  go_wp2_with fail
                  refine Calls.mono (KS.out _) ?_
                  rintro e w2 ⟨rfl, k2⟩
                  rw [k2]
                  clear k2 w2
                  go_wp2_with fail
                  refine Calls.mono (N10.out _) ?_
                  rintro e w2 ⟨rfl, k2⟩
                  rw [k2]
                  clear k2 w2
                  go_wp2
                  go_ret2
                  have B0 := Below.drewN b0 nq
                  exact ⟨rfl, B0.trans (b3.mono B0.size)⟩
                · rw [if_neg kS] at HA
                  have kS' : ((wSum r : Int) != (WS : Int)) = true := by simp; omega
                  clear kS
                  rw [HA.out]
                  generalize wSum r = SR at *
                  go_enter Tryz.func52, Tryz.ntmps52
                  go_wp2_with fail
                  refine Calls.mono (HP.out _) ?_
                  rintro e w0 ⟨rfl, b0⟩
                  go_wp2_with fail
                  refine Calls.mono (HH.out _) ?_
                  rintro e w2 ⟨rfl, k2⟩
                  rw [k2]
                  clear k2 w2
                  go_wp2_with fail
                  refine Calls.mono (N2.out _) ?_
                  rintro e w2 ⟨rfl, k2⟩
                  rw [k2]
                  clear k2 w2
                  go_wp2_with fail
                  go_quiet (fail)
                  go_wp2_with fail
                  refine Calls.mono (N8.out _) ?_
                  rintro e w2 ⟨rfl, k2⟩
                  rw [k2]
                  clear k2 w2
                  go_wp2_with fail
                  refine Calls.mono (KP.out _) ?_
                  rintro e w3 ⟨⟨rr, bb, rfl, hrr⟩, b3⟩
                  obtain ⟨rfl, rfl⟩ : bb = true ∧ r = rr := by
                    rcases hrr with q | q
                    · exact ⟨q.1, by simpa using q.2⟩
                    · simp at q
                  clear hrr
                  go_wp2_with fail
                  refine Calls.mono (KS.out _) ?_
                  rintro e w2 ⟨rfl, k2⟩
                  rw [k2]
                  clear k2 w2
                  go_wp2_with fail
                  refine Calls.mono (N10.out _) ?_
                  rintro e w2 ⟨rfl, k2⟩
                  rw [k2]
                  clear k2 w2
                  go_wp2
                  go_ret2
                  have B0 := Below.drewN b0 nq
                  exact ⟨rfl, B0.trans (b3.mono B0.size)⟩
            · rw [if_neg k1] at HDC
              have k1' : ((btn g 1 : Int) == 1) = false := beq_eq_false_iff_ne.2 (by omega)
              clear k1 KP HPS
              obtain ⟨R, hR⟩ : ∃ R, g.extract 14 g.size = R := ⟨_, rfl⟩
              rw [hR] at HDC hex
              have KS := hid (HSR.out R (by omega))
              have hws := HSL.out R
              have hR2 := hR
              by_cases kz : g.size = 14 + SZ
              · rw [if_pos kz] at HDC
                rw [HDC.out] at HA
                have kz' : (((g.size - 14 : Nat) : Int) == (SZ : Int)) = true := by simp; omega
                clear kz HDC
                simp only at HA
                by_cases kS : wSum R = WS
                · rw [if_pos kS] at HA
                  have kS' : ((wSum R : Int) != (WS : Int)) = false := by simp [kS]
                  clear kS
                  rw [HA.out]
                  generalize wSum R = SR at *
                  go_enter Tryz.func52, Tryz.ntmps52
                  go_wp2_with fail
                  refine Calls.mono (HP.out _) ?_
                  rintro e w0 ⟨rfl, b0⟩
                  go_wp2_with fail
                  refine Calls.mono (HH.out _) ?_
                  rintro e w2 ⟨rfl, k2⟩
                  rw [k2]
                  clear k2 w2
                  go_wp2_with fail
                  refine Calls.mono (N2.out _) ?_
                  rintro e w2 ⟨rfl, k2⟩
                  rw [k2]
                  clear k2 w2
                  go_wp2_with fail
                  go_quiet (fail)
                  go_wp2_with fail
                  refine Calls.mono (N8.out _) ?_
                  rintro e w2 ⟨rfl, k2⟩
                  rw [k2]
                  clear k2 w2
                  go_wp2_with fail
                  refine Calls.mono (KS.out _) ?_
                  rintro e w2 ⟨rfl, k2⟩
                  rw [k2]
                  clear k2 w2
                  go_wp2_with fail
                  refine Calls.mono (N10.out _) ?_
                  rintro e w2 ⟨rfl, k2⟩
                  rw [k2]
                  clear k2 w2
                  go_wp2
                  go_ret2
                  exact ⟨rfl, Below.drewN b0 nq⟩
                · rw [if_neg kS] at HA
                  have kS' : ((wSum R : Int) != (WS : Int)) = true := by simp; omega
                  clear kS
                  rw [HA.out]
                  generalize wSum R = SR at *
                  go_enter Tryz.func52, Tryz.ntmps52
                  go_wp2_with fail
                  refine Calls.mono (HP.out _) ?_
                  rintro e w0 ⟨rfl, b0⟩
                  go_wp2_with fail
                  refine Calls.mono (HH.out _) ?_
                  rintro e w2 ⟨rfl, k2⟩
                  rw [k2]
                  clear k2 w2
                  go_wp2_with fail
                  refine Calls.mono (N2.out _) ?_
                  rintro e w2 ⟨rfl, k2⟩
                  rw [k2]
                  clear k2 w2
                  go_wp2_with fail
                  go_quiet (fail)
                  go_wp2_with fail
                  refine Calls.mono (N8.out _) ?_
                  rintro e w2 ⟨rfl, k2⟩
                  rw [k2]
                  clear k2 w2
                  go_wp2_with fail
                  refine Calls.mono (KS.out _) ?_
                  rintro e w2 ⟨rfl, k2⟩
                  rw [k2]
                  clear k2 w2
                  go_wp2_with fail
                  refine Calls.mono (N10.out _) ?_
                  rintro e w2 ⟨rfl, k2⟩
                  rw [k2]
                  clear k2 w2
                  go_wp2
                  go_ret2
                  exact ⟨rfl, Below.drewN b0 nq⟩
              · rw [if_neg kz] at HDC
                rw [HDC.out] at HA
                have kz' : (((g.size - 14 : Nat) : Int) == (SZ : Int)) = false := beq_eq_false_iff_ne.2 (by omega)
                clear kz HDC
                rw [HA.out]
                go_enter Tryz.func52, Tryz.ntmps52
                go_wp2_with fail
                refine Calls.mono (HP.out _) ?_
                rintro e w0 ⟨rfl, b0⟩
                go_wp2_with fail
                refine Calls.mono (HH.out _) ?_
                rintro e w2 ⟨rfl, k2⟩
                rw [k2]
                clear k2 w2
                go_wp2_with fail
                refine Calls.mono (N2.out _) ?_
                rintro e w2 ⟨rfl, k2⟩
                rw [k2]
                clear k2 w2
                go_wp2_with fail
                go_quiet (fail)
                go_wp2_with fail
                refine Calls.mono (N8.out _) ?_
                rintro e w2 ⟨rfl, k2⟩
                rw [k2]
                clear k2 w2
                go_wp2
                go_ret2
                exact ⟨rfl, Below.drewN b0 nq⟩
          · rw [if_pos k9] at HA
            have k9' : ((g.extract 4 8).toList == (f.extract q f.size).toList) = false := by rw [hbe]; simp [k9]
            clear k9 hbe
            rw [HA.out]
            go_enter Tryz.func52, Tryz.ntmps52
            go_wp2_with fail
            refine Calls.mono (HP.out _) ?_
            rintro e w0 ⟨rfl, b0⟩
            go_wp2_with fail
            refine Calls.mono (HH.out _) ?_
            rintro e w2 ⟨rfl, k2⟩
            rw [k2]
            clear k2 w2
            go_wp2_with fail
            refine Calls.mono (N2.out _) ?_
            rintro e w2 ⟨rfl, k2⟩
            rw [k2]
            clear k2 w2
            go_wp2_with fail
            go_quiet (fail)
            go_wp2
            go_ret2
            exact ⟨rfl, Below.drewN b0 nq⟩
        · rw [if_pos k8] at HA
          have k8' : ((NG : Int) != (NF : Int)) = true := by simp; omega
          clear k8
          rw [HA.out]
          go_enter Tryz.func52, Tryz.ntmps52
          go_wp2_with fail
          refine Calls.mono (HP.out _) ?_
          rintro e w0 ⟨rfl, b0⟩
          go_wp2_with fail
          refine Calls.mono (HH.out _) ?_
          rintro e w2 ⟨rfl, k2⟩
          rw [k2]
          clear k2 w2
          go_wp2_with fail
          refine Calls.mono (N2.out _) ?_
          rintro e w2 ⟨rfl, k2⟩
          rw [k2]
          clear k2 w2
          go_wp2
          go_ret2
          exact ⟨rfl, b0⟩
    · have HA := hid (dc_file hl h)
      rw [HA.out]
      rw [pAns_no h] at HP
      simp only [parV] at HP
      clear h HA
      go_enter Tryz.func52, Tryz.ntmps52
      go_wp2_with fail
      refine Calls.mono (HP.out _) ?_
      rintro e w0 ⟨rfl, b0⟩
      go_wp2
      go_ret2
      exact ⟨rfl, b0⟩
end Go.Proofs.YtnconbpneimjiaaGreat

/-
  P5: the walk of the document's Squeeze.
-/
import Derived.Test.YtaofgdgfmdieeaaRefWritten
import Derived.Test.YtaofgdgfmdieeaaSqzWalk
namespace Go.Proofs.Ytaofgdgfmdieeaa
open Go.RowKit Go.PlainAid

theorem not_empty {s : ByteArray} (h : s.size ≠ 0) : s.toList.isEmpty = false := by
  rw [ByteArray.toList_eq]
  cases hd : s.data.toList with
  | nil =>
    exfalso
    apply h
    show s.data.size = 0
    rw [← Array.length_toList, hd]; rfl
  | cons a l => rfl
theorem btn_sgn (L : List Nat) (h : ∀ x ∈ L, x < 2) (i : Nat) (hi : i < (strOfNums (sgn L)).size) : btn (strOfNums (sgn L)) i = 48 + bl L i := by
  rw [strOfNums_size, sgn_len] at hi
  have := bt_str (sgn L) (fun x hx => by
    simp only [sgn, List.mem_map] at hx
    obtain ⟨b, hb, rfl⟩ := hx
    have := h b hb
    omega) i (by rw [sgn_len]; exact hi)
  unfold btn bl
  rw [this]
  simp only [sgn, List.getD_eq_getElem?_getD, List.getElem?_map, List.getElem?_eq_getElem hi, Option.map_some, Option.getD_some]
  omega
theorem padL_bits {B : List Nat} (h : ∀ x ∈ B, x < 2) : ∀ x ∈ padL B, x < 2 := by
  intro x hx
  simp only [padL, List.mem_append, List.mem_cons, List.mem_replicate] at hx
  rcases hx with hx | hx | hx
  · exact h x hx
  · omega
  · omega
theorem padL_len (B : List Nat) : (padL B).length = 8 * (B.length / 8 + 1) := by simp [padL]; omega
theorem encB_bits {t s : ByteArray} (h : TOk t) (hs : ∀ j, j < s.size → 1 ≤ tShr t (btn s (s.size - 1 - j))) : ∀ x ∈ encB t s, x < 2 := by
  intro x hx
  rcases List.mem_append.1 hx with hx | hx
  · exact digB_bit _ _ x hx
  · exact (encOk h s.size hs).bit x hx
theorem encB_len {t s : ByteArray} (h : TOk t) (hs : ∀ j, j < s.size → 1 ≤ tShr t (btn s (s.size - 1 - j))) : (encB t s).length ≤ 6 + 6 * s.size := by
  have := (encOk h s.size hs).len
  unfold encB
  rw [List.length_append, digB_len]; omega
theorem allSh_elim {t s : ByteArray} (h : allSh t s = true) : ∀ j, j < s.size → 1 ≤ tShr t (btn s (s.size - 1 - j)) := by
  simp only [allSh, decide_eq_true_eq] at h
  intro j hj
  exact h _ (by omega)

set_option maxRecDepth 100000 in
set_option maxHeartbeats 800000 in
theorem refSqueeze_any (t s : ByteArray) (w : World) (ht : t.size ≤ maxLen) (hs : s.size ≤ maxLen) :
    Calls Try.prog 21 #[.string t, .string s] w fun e w' => e = .returned (.tuple #[.string (sqAns t s).1, .int .i64 (sqAns t s).2]) ∧ Below w.heap.size w w' := by
  obtain ⟨i0, hi, hz0, hz1, hz2⟩ := info_parts Try.infoU8
  by_cases hl : 500 < s.size
  · have HA := hid (show sqAns t s = (⟨#[]⟩, 1) from by unfold sqAns; rw [if_pos hl])
    unfold maxLen at hs
    have hl' : (500 : Int) < (s.size : Int) := by omega
    go_enter Try.func21, Try.ntmps21
    go_wp2
    go_ret2
    exact ⟨ret_ans HA.out.symm, Below.refl _ _⟩
  · have hl' : ¬ (500 : Int) < (s.size : Int) := by omega
    have hcall := hid (refIsTable_any t w ht)
    cases hT : isTB t
    · have HA := hid (show sqAns t s = (⟨#[]⟩, 3) from by unfold sqAns; rw [if_neg hl, if_pos hT])
      rw [hT] at hcall
      clear hT
      go_enter Try.func21, Try.ntmps21
      go_wp2_with fail
      refine Calls.mono hcall.out ?_
      rintro e w1 ⟨rfl, nq, rfl⟩
      go_wp2
      go_ret2
      exact ⟨ret_ans HA.out.symm, Below.drewN (Below.refl _ _) _⟩
    · have hok := tok hT
      have HA := hid (show sqAns t s = if allSh t s = false then (⟨#[]⟩, 4) else (strN (packL (encB t s)), 0) from by unfold sqAns; rw [if_neg hl, if_neg (by rw [hT]; simp)])
      have HSL := hid (fun w => slots_any t w hT (fun k hk => by have := hok.num_bd hk; have := hok.one k hk; have := hok.le (tOwn t k); omega) hok.le)
      have HW := hid (fun g cap w h => written_any t s g cap w h hok (by omega))
      have HOK := hid hok
      rw [hT] at hcall
      clear hT hok
      go_enter Try.func21, Try.ntmps21
      go_wp2_with fail
      refine Calls.mono hcall.out ?_
      rintro e w1 ⟨rfl, nq, rfl⟩
      go_wp2_with fail
      refine Calls.mono (HSL.out _) ?_
      rintro e w2 ⟨v, rfl, hown, b2⟩
      have hb2 : Below w.heap.size w w2 := (Below.drewN (Below.refl _ _) nq).trans b2
      obtain ⟨g, cap, hv, hsl⟩ := Sls.of_own hown
      rw [hv]
      clear hown hv b2 hcall
      have hcw := hid (HW.out g cap w2 hsl)
      go_wp2_with fail
      cases hA : allSh t s
      · have e1 : wrt t s = ⟨#[]⟩ := by unfold wrt; rw [hA]; rfl
        rw [e1] at hcw
        rw [if_pos hA] at HA
        clear hA e1
        refine Calls.mono hcw.out ?_
        rintro e w3 ⟨rfl, b3⟩
        go_wp2
        go_ret2
        exact ⟨ret_ans HA.out.symm, hb2.trans (b3.mono hb2.size)⟩
      · have e1 : wrt t s = strOfNums (sgn (padL (encB t s))) := by unfold wrt; rw [hA]; rfl
        rw [e1] at hcw
        rw [if_neg (by rw [hA]; simp)] at HA
        have hbits := encB_bits HOK.out (allSh_elim hA)
        have hlen := encB_len HOK.out (allSh_elim hA)
        clear hA e1
        have HV := hid (fun a w (ha : a ≤ 100000) => value_any (strOfNums (sgn (padL (encB t s)))) (bl (padL (encB t s))) a 8 w (fun i => bl_lt (padL_bits hbits) i) (fun i hi => btn_sgn _ (padL_bits hbits) i hi) (fun i hi => by
          rw [strOfNums_size, sgn_len] at hi
          unfold bl
          rw [List.getD_eq_getElem?_getD, List.getElem?_eq_none hi]; rfl) ha (by omega) (by rw [strOfNums_size, sgn_len, padL_len]; unfold maxLen; omega))
        have hsize : (strOfNums (sgn (padL (encB t s)))).size = 8 * ((encB t s).length / 8 + 1) := by rw [strOfNums_size, sgn_len, padL_len]
        have HPK := hid (show packL (encB t s) = pkTo (encB t s) ((encB t s).length / 8 + 1) from rfl)
        have HVB := hid (fun k => valF8 (fun i => bl_lt (padL_bits hbits) i) (8 * k) (n := 8) (by omega))
        have HPS := hid (pkTo_succ (encB t s))
        rw [HPK.out] at HA
        clear hbits HPK
        have hemp : (strOfNums (sgn (padL (encB t s)))).toList.isEmpty = false := not_empty (by rw [hsize]; omega)
        generalize strOfNums (sgn (padL (encB t s))) = S at *
        generalize hP : bl (padL (encB t s)) = P at *
        clear hP
        generalize hn : (encB t s).length / 8 + 1 = n at *
        have hn600 : n ≤ 600 := by omega
        clear hn
        refine Calls.mono hcw.out ?_
        rintro e w3 ⟨rfl, b3⟩
        have hb3 : Below w.heap.size w w3 := hb2.trans (b3.mono hb2.size)
        clear hcw b3 hb2 hsl
        go_wp2
        go_loopw [9, 10, 11] (fun v i _ wr => ∃ k : Nat, k ≤ n ∧ i = .int .i64 (8 * (k : Int)) ∧ wr.ownsRow w.heap.size 5 1 v k ((ints (pkTo (encB t s) k)).map (Value.int .u8)) ∧ Below w.heap.size w wr) (fun _ i _ _ => 8 * n - (intOf i).toNat)
        case atStart => exact ⟨0, Nat.zero_le _, rfl, World.ownsRow_nil _ _ _ _, hb3⟩
        case round =>
          obtain ⟨k, hk, rfl, hown, hbel⟩ := hrel
          have hsz := hbel.size
          by_cases hlt : k < n
          · have hcv := hid (HV.out (8 * k) wr (by omega))
            have hvb := HVB.out k
            have HPK := hid (HPS.out k)
            generalize valF P (8 * k) 8 = x at *
            have h8 : ((8 * k : Nat) : Int) = 8 * (k : Int) := by omega
            rw [h8] at hcv
            clear h8
            go_wp2_with (first
              | (go_at_call 45; refine Calls.mono hcv.out ?_; rintro e w' ⟨rfl, rfl⟩)
              | (at_builtin; refine wpList_append_own _ rfl (.tmp 35) (.tmp 38) 37 rfl w.heap.size 5 i0 (.int .u8 0) 1 1 Try.underlying37 hi hz0 hz1 hz2 rfl (by decide) _ _ _ rfl (hown.alloc _) ⟨_, 0, none⟩ 1 1 [.int .u8 (x : Int)] rfl rfl (cell_one_new _ _ _) (by intro u hu; simp at hu; subst hu; rfl) (by unfold maxLen; omega) (by omega) (by simp; omega) ?_; intro v' w4 hown' hgrow _))
            go_roundw
            case rel =>
              have hown4 : w4.ownsRow w.heap.size 5 1 v' (k + 1) ((ints (pkTo (encB t s) (k + 1))).map (Value.int .u8)) := by
                rw [HPK.out]; simpa [ints] using hown'
              have bel4 := (hbel.alloc hsz _).grown hgrow (by simp; omega) (own_base hown)
              first
                | exact ⟨k + 1, by omega, by go_num, hown4, bel4⟩
                | ((repeat apply Exists.intro); exact ⟨⟨k + 1, by omega, by go_num, hown4, bel4⟩, rfl⟩)
            case measure => simp [intOf]; omega
          · have HK := hid (show k = n from by omega)
            have hconv := conv_own (P := Try.prog) (dst := 9) Try.underlying37 Try.underlying5 Try.underlying9 hown
            rw [← HK.out] at HA
            go_wp2
            go_ret2
            exact ⟨ret_ans HA.out.symm, hbel⟩
end Go.Proofs.Ytaofgdgfmdieeaa

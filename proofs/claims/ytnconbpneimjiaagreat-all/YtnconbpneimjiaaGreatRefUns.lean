/-
  P6: the walk of the document's Unsqueeze.
-/
import Derived.Test.YtnconbpneimjiaaGreatRefSqz
import Derived.Test.YtnconbpneimjiaaGreatUnsWalk
import Derived.Test.YtnconbpneimjiaaGreatPlain
namespace Go.Proofs.YtnconbpneimjiaaGreat
open Go.RowKit Go.PlainAid

/-- All bits of the first k bytes. -/
def allB (s : ByteArray) : Nat → List Nat
  | 0 => []
  | k + 1 => allB s k ++ digB (btn s k) 8
theorem allB_len (s : ByteArray) (k : Nat) : (allB s k).length = 8 * k := by
  induction k with
  | zero => rfl
  | succ k ih => rw [allB, List.length_append, ih, digB_len]; omega
theorem allB_bit (s : ByteArray) (k : Nat) : ∀ x ∈ allB s k, x < 2 := by
  induction k with
  | zero => intro x hx; simp [allB] at hx
  | succ k ih =>
    intro x hx
    rw [allB, List.mem_append] at hx
    rcases hx with hx | hx
    · exact ih x hx
    · exact digB_bit _ _ x hx
theorem allB_get (s : ByteArray) (k i : Nat) (hi : i < 8 * k) : bl (allB s k) i = bitF s i := by
  induction k with
  | zero => omega
  | succ k ih =>
    unfold bl
    rw [allB, List.getD_eq_getElem?_getD, List.getElem?_append]
    by_cases c : i < 8 * k
    · rw [if_pos (by rw [allB_len]; exact c), ← List.getD_eq_getElem?_getD]
      exact ih c
    · rw [if_neg (by rw [allB_len]; exact c), allB_len, ← List.getD_eq_getElem?_getD, digB_get _ _ _ (by omega)]
      have := bitF_at s k (i - 8 * k) (by omega)
      rw [show 8 * k + (i - 8 * k) = i from by omega] at this
      rw [this]
theorem bitF_end (s : ByteArray) (i : Nat) (h : 8 * s.size ≤ i) : bitF s i = 0 := by
  unfold bitF btn
  rw [bt_end s (by omega)]
  simp
theorem decT_at {t s : ByteArray} (h : TOk t) (n : Nat) : (decT t s n).2 ≤ 6 + 6 * n := by
  induction n with
  | zero => simp [decT]
  | succ n ih =>
    have hs := decT_lt (s := s) h n
    have h1 := h.num_bd hs
    have h2 := h.one _ hs
    have h3 := h.le (tOwn t (decT t s n).1)
    have := (kOf_up (n := tNum t (decT t s n).1) (by omega) (by omega)).1
    show (decT t s n).2 + _ ≤ _
    omega
def usR (t s : ByteArray) (n : Nat) : ByteArray × Int := if rdOk t s n = false then (⟨#[]⟩, 5) else (strN (outT t s n), 0)
/-- The document's answer is the program's. -/
theorem us_iff {t s : ByteArray} (hT : isTB t = true) {n : Nat} (hn : n ≤ 500) : rdOk t s n = true ↔ (sqAns t (strN (outT t s n))).1 = s := by
  have h := tok hT
  have hsz : (strN (outT t s n)).size = n := by rw [strN_size, outT_len]
  have e : sqAns t (strN (outT t s n)) = (strN (packL (encB t (strN (outT t s n)))), 0) := by
    unfold sqAns
    rw [if_neg (by omega), if_neg (by rw [hT]; simp), if_neg (by rw [out_allSh h n]; simp)]
  rw [e]
  constructor
  · intro hr; exact canon h hr
  · intro he
    have := round h (out_allSh (s := s) h n) he.symm
    rw [hsz] at this
    exact this.1

set_option maxRecDepth 100000 in
set_option maxHeartbeats 1600000 in
theorem refUns_mid (t s : ByteArray) (n : Nat) (w : World) (ht : t.size ≤ maxLen) (hs : s.size ≤ 1000) (hn : n ≤ 500) (hT : isTB t = true) :
    Calls Tryz.prog 40 #[.string t, .string s, .int .i64 n] w fun e w' => e = .returned (.tuple #[.string (usR t s n).1, .int .i64 (usR t s n).2]) ∧ Below w.heap.size w w' := by
  obtain ⟨i0, hi, hz0, hz1, hz2⟩ := info_parts Tryz.infoU8
  have hok := tok hT
  have hl' : ¬ (1000 : Int) < (s.size : Int) := by omega
  have hn0' : decide ((n : Int) < 0) = false := by simp
  have hn5' : decide ((500 : Int) < (n : Int)) = false := by simp; omega
  have hcall := hid (refIsTable_any t w ht)
  rw [hT] at hcall
  have HSL := hid (fun w => slots_any t w hT (fun k hk => by have := hok.num_bd hk; have := hok.one k hk; have := hok.le (tOwn t k); omega) hok.le)
  have HSQ := hid (fun w => refSqueeze_any t (strN (outT t s n)) w ht (by rw [strN_size, outT_len]; unfold maxLen; omega))
  have HIFF := hid (us_iff (s := s) hT hn)
  have HOK := hid hok
  have hb := get_btn s
  clear hT hok
  go_enter Tryz.func40, Tryz.ntmps40
  go_wp2_with fail
  refine Calls.mono hcall.out ?_
  rintro e w1 ⟨rfl, nq, rfl⟩
  clear hcall
  go_wp2_with fail
  go_loopw [9, 10, 11] (fun v i _ wr => ∃ k : Nat, k ≤ s.size ∧ i = .int .i64 k ∧ v = .string (strOfNums (sgn (allB s k))) ∧ Below w.heap.size w wr) (fun _ i _ _ => s.size - (intOf i).toNat)
  case atStart => exact ⟨0, Nat.zero_le _, rfl, rfl, Below.drewN (Below.refl _ _) _⟩
  case round =>
    obtain ⟨k, hk, rfl, rfl, hbel⟩ := hrel
    have hsz := hbel.size
    have hlen : (strOfNums (sgn (allB s k))).size = 8 * k := by rw [strOfNums_size, sgn_len, allB_len]
    by_cases hlt : k < s.size
    · have b1 := btn_lt s k
      have hcd := hid (digits_any (btn s k) 8 wr (by omega) (by omega))
      have hlen8 : (strOfNums (sgn (digB (btn s k) 8))).size = 8 := by rw [strOfNums_size, sgn_len, digB_len]
      have HJ := hid (show strOfNums (sgn (allB s k)) ++ strOfNums (sgn (digB (btn s k) 8)) = strOfNums (sgn (allB s (k + 1))) from by rw [str_append, ← sgn_append]; rfl)
      generalize strOfNums (sgn (allB s k)) = S1 at *
      generalize strOfNums (sgn (digB (btn s k) 8)) = S2 at *
      go_wp2_with (go_at_call 79; refine Calls.mono hcd.out ?_; rintro e w2 ⟨rfl, b2⟩)
      go_roundw
      case rel => exact ⟨k + 1, by omega, by go_num, by rw [HJ.out], hbel.trans (b2.mono hsz)⟩
      case measure => simp [intOf]; omega
    · have HK := hid (show k = s.size from by omega)
      rw [HK.out] at hlen
      have HV := hid (fun a m w (ha : a ≤ 100000) (hm : m ≤ 8) => value_any (strOfNums (sgn (allB s k))) (bitF s) a m w (bitF_lt s) (fun i hi => by
        rw [strOfNums_size, sgn_len, allB_len] at hi
        rw [btn_sgn _ (allB_bit s k) i (by rw [strOfNums_size, sgn_len, allB_len]; exact hi), allB_get s k i hi]) (fun i hi => by
        rw [strOfNums_size, sgn_len, allB_len] at hi
        exact bitF_end s i (by rw [← HK.out]; exact hi)) ha hm (by rw [strOfNums_size, sgn_len, allB_len]; unfold maxLen; omega))
      have HD0 := hid (show decT t s 0 = (valF (bitF s) 0 6, 6) from rfl)
      have hdk : decide ((k : Int) < (s.size : Int)) = false := by simp; omega
      generalize strOfNums (sgn (allB s k)) = S at *
      obtain ⟨w1, rfl⟩ : ∃ w1, w1 = wr := ⟨wr, rfl⟩
      go_wp2_with fail
      refine Calls.mono (HSL.out _) ?_
      rintro e w2 ⟨v, rfl, hown, b2⟩
      have hb2 : Below w.heap.size w w2 := hbel.trans (b2.mono hsz)
      obtain ⟨g, cap, hv, hsl⟩ := Sls.of_own hown
      rw [hv]
      clear hown hv b2 HSL hbel
      have hc0 := hid (HV.out 0 6 w2 (by omega) (by omega))
      go_wp2_with fail
      refine Calls.mono hc0.out ?_
      rintro e w2' ⟨rfl, hw2⟩
      rw [hw2]
      clear hw2 w2' hc0
      have hsz2 := hb2.size
      go_wp2_with fail
      go_loopw [13, 14, 15, 16, 17] (fun q a o i _ wr => ∃ k : Nat, k ≤ n ∧ i = .int .i64 k ∧ q = .int .i64 ((decT t s k).1 : Int) ∧ a = .int .i64 ((decT t s k).2 : Int) ∧ wr.ownsRow w2.heap.size 5 1 o k ((ints (outT t s k)).map (Value.int .u8)) ∧ Below w2.heap.size w2 wr) (fun _ _ _ i _ _ => n - (intOf i).toNat)
      case atStart => exact ⟨0, Nat.zero_le _, rfl, by rw [HD0.out], by rw [HD0.out]; rfl, World.ownsRow_nil _ _ _ _, Below.refl _ _⟩
      case round =>
        obtain ⟨k2, hk2, rfl, rfl, rfl, hown, hb3⟩ := hrel
        have hs3 := hb3.size
        have hdl := decT_lt (s := s) HOK.out k2
        have hda := decT_at (s := s) HOK.out k2
        by_cases hlt2 : k2 < n
        · have hS := hsl.below hb3
          obtain ⟨c1, c2, c3⟩ := hS.2 _ hdl
          have HDS := hid (show decT t s (k2 + 1) = (tNum t (decT t s k2).1 * 2 ^ kOf (tNum t (decT t s k2).1) + valF (bitF s) (decT t s k2).2 (kOf (tNum t (decT t s k2).1)) - 64, (decT t s k2).2 + kOf (tNum t (decT t s k2).1)) from rfl)
          have HOS := hid (show outT t s (k2 + 1) = outT t s k2 ++ [tOwn t (decT t s k2).1] from rfl)
          have hn1 := HOK.out.num_bd hdl
          have hn2 := HOK.out.one _ hdl
          have hn3 := HOK.out.le (tOwn t (decT t s k2).1)
          have hku := (kOf_up (n := tNum t (decT t s k2).1) (by omega) (by omega)).1
          have hp := pow_bd hku
          have hl := low_bd hn2 hn1 hn3
          have hnN : (tNum t (decT t s k2).1 : Int) ≤ 127 := by omega
          have hdb := double_spec (n := tNum t (decT t s k2).1) hn2 hn3 hn1.1 hn1.2 (valF_lt (bitF_lt s) (decT t s k2).2 (kOf (tNum t (decT t s k2).1)))
          have HV2 := hid (fun w => HV.out (decT t s k2).2 (kOf (tNum t (decT t s k2).1)) w (by omega) (by omega))
          have hov := tOwn_lt t (decT t s k2).1
          have hvb := valF_bd (bitF_lt s) (decT t s k2).2 (n := kOf (tNum t (decT t s k2).1)) (by omega)
          have HD1 := hid hdb.1
          have HCELL := hid (fun w' (hb : Below w2.heap.size w2 w') => (hsl.below hb).2 _ hdl)
          have HCAST := hid (show (((tNum t (decT t s k2).1 * 2 ^ kOf (tNum t (decT t s k2).1) + valF (bitF s) (decT t s k2).2 (kOf (tNum t (decT t s k2).1)) - 64 : Nat)) : Int) = (tNum t (decT t s k2).1 : Int) * 2 ^ kOf (tNum t (decT t s k2).1) + (valF (bitF s) (decT t s k2).2 (kOf (tNum t (decT t s k2).1)) : Int) - 64 from by
            rw [Int.ofNat_sub hdb.1]; push_cast; rfl)
          clear hn1 hn2 hn3 hdb
          generalize valF (bitF s) (decT t s k2).2 (kOf (tNum t (decT t s k2).1)) = x at *
          generalize (decT t s k2).1 = Q at *
          generalize (decT t s k2).2 = A at *
          generalize tNum t Q = N at *
          generalize kOf N = K at *
          generalize tOwn t Q = O at *
          have hdk2 : decide ((k2 : Int) < (n : Int)) = true := by simp; omega
          have hgS := hS.1
          go_wp2_with (first
            | (go_at_call 77; refine Calls.mono (HV2.out _) ?_; rintro e w' ⟨rfl, hw'⟩; rw [hw']; clear hw' w')
            | (at_builtin; refine wpList_append_own _ rfl (.tmp 56) (.tmp 63) 114 rfl w2.heap.size 5 i0 (.int .u8 0) 1 1 Tryz.underlying114 hi hz0 hz1 hz2 rfl (by decide) _ _ _ rfl (hown.alloc _) ⟨_, 0, none⟩ 1 1 [.int .u8 (O : Int)] rfl rfl (cell_one_new _ _ _) (by intro u hu; simp at hu; subst hu; rfl) (by unfold maxLen; omega) (by omega) (by simp; omega) ?_; intro v' w4 hown' hgrow _; have bel4 : Below w2.heap.size w2 w4 := (hb3.alloc hs3 _).grown hgrow (by simp; omega) (own_base hown); obtain ⟨d1, d2, d3⟩ := HCELL.out w4 bel4))
          have hq1 : (0 : Int) ≤ (Q : Int) := by omega
          have hq2 : (Q : Int) < 64 := by omega
          go_quiet (fail)
          go_wp2
          go_roundw
          case rel =>
            have hown4 : w4.ownsRow w2.heap.size 5 1 v' (k2 + 1) ((ints (outT t s (k2 + 1))).map (Value.int .u8)) := by
              rw [HOS.out]; simpa [ints] using hown'
            have hd1 := HDS.out
            refine ⟨k2 + 1, by omega, by go_num, ?_, ?_, own_drewN _ hown4, Below.drewN bel4 _⟩
            · rw [hd1]; exact congrArg (Value.int .i64) HCAST.out.symm
            · rw [hd1]; go_num
          case measure => simp [intOf]; omega
        · have HKN := hid (show k2 = n from by omega)
          rw [HKN.out] at hown
          have hconv := conv_own (P := Tryz.prog) (dst := 9) Tryz.underlying114 Tryz.underlying5 Tryz.underlying9 hown
          have hcs := hid (HSQ.out wr)
          have hb4 : Below w.heap.size w wr := hb2.trans (hb3.mono hsz2)
          have hdk2 : decide ((k2 : Int) < (n : Int)) = false := by simp; omega
          rw [show strOfNums (ints (outT t s n)) = strN (outT t s n) from rfl] at hconv
          have HC6 := hid (fun w' (hb : Below wr.heap.size wr w') => show Sem.run Tryz.prog (convert 114 9 _) w' = .ok (.string (strN (outT t s n))) w' from conv_own (P := Tryz.prog) (dst := 9) Tryz.underlying114 Tryz.underlying5 Tryz.underlying9 (own_below hown hb))
          have HIF := HIFF.out
          clear HV HD0 hdl hda hown hsl HIFF HSQ
          generalize (decT t s k2).1 = Q at *
          generalize (decT t s k2).2 = A at *
          cases hR : rdOk t s n
          · have hne : ((sqAns t (strN (outT t s n))).1.toList == s.toList) = false := by
              rw [beq_eq_false_iff_ne]
              intro e
              rw [ByteArray.toList_eq, ByteArray.toList_eq] at e
              have : (sqAns t (strN (outT t s n))).1 = s := by
                apply ByteArray.ext
                exact Array.toList_inj.1 e
              have := HIF.2 this
              rw [hR] at this
              simp at this
            have HA := hid (show usR t s n = (⟨#[]⟩, 5) from by unfold usR; rw [if_pos hR])
            clear hR HIF
            generalize strN (outT t s n) = X at *
            generalize sqAns t X = Y at *
            obtain ⟨Y, yn⟩ := Y
            go_wp2_with (go_at_call 38; refine Calls.mono hcs.out ?_; rintro e w6 ⟨rfl, b6⟩)
            go_ret2
            exact ⟨ret_ans HA.out.symm, hb4.trans (b6.mono hb4.size)⟩
          · have hne : ((sqAns t (strN (outT t s n))).1.toList == s.toList) = true := by
              rw [beq_iff_eq, HIF.1 hR]
            have HA := hid (show usR t s n = (strN (outT t s n), 0) from by unfold usR; rw [if_neg (by rw [hR]; simp)])
            clear hR HIF
            generalize strN (outT t s n) = X at *
            generalize sqAns t X = Y at *
            obtain ⟨Y, yn⟩ := Y
            go_wp2_with (go_at_call 38; refine Calls.mono hcs.out ?_; rintro e w6 ⟨rfl, b6⟩; have hconv6 := HC6.out w6 b6)
            go_ret2
            exact ⟨ret_ans HA.out.symm, hb4.trans (b6.mono hb4.size)⟩

set_option maxRecDepth 100000 in
set_option maxHeartbeats 800000 in
theorem refUns_any (t s : ByteArray) (n : Int) (w : World) (ht : t.size ≤ maxLen) (hs : s.size ≤ maxLen) :
    Calls Tryz.prog 40 #[.string t, .string s, .int .i64 n] w fun e w' => e = .returned (.tuple #[.string (usAns t s n).1, .int .i64 (usAns t s n).2]) ∧ Below w.heap.size w w' := by
  by_cases hl : 1000 < s.size
  · have HA := hid (show usAns t s n = (⟨#[]⟩, 1) from by unfold usAns; rw [if_pos hl])
    unfold maxLen at hs
    have hl' : (1000 : Int) < (s.size : Int) := by omega
    go_enter Tryz.func40, Tryz.ntmps40
    go_wp2
    go_ret2
    exact ⟨ret_ans HA.out.symm, Below.refl _ _⟩
  · have hl' : ¬ (1000 : Int) < (s.size : Int) := by omega
    by_cases hn0 : n < 0
    · have HA := hid (show usAns t s n = (⟨#[]⟩, 2) from by unfold usAns; rw [if_neg hl, if_pos (Or.inl hn0)])
      go_enter Tryz.func40, Tryz.ntmps40
      go_wp2
      go_ret2
      exact ⟨ret_ans HA.out.symm, Below.refl _ _⟩
    · have hn0' : decide (n < 0) = false := by simp; omega
      by_cases hn5 : 500 < n
      · have HA := hid (show usAns t s n = (⟨#[]⟩, 2) from by unfold usAns; rw [if_neg hl, if_pos (Or.inr hn5)])
        go_enter Tryz.func40, Tryz.ntmps40
        go_wp2
        go_ret2
        exact ⟨ret_ans HA.out.symm, Below.refl _ _⟩
      · have hn5' : decide (500 < n) = false := by simp; omega
        cases hT : isTB t
        · have HA := hid (show usAns t s n = (⟨#[]⟩, 3) from by unfold usAns; rw [if_neg hl, if_neg (by omega), if_pos hT])
          have hcall := hid (refIsTable_any t w ht)
          rw [hT] at hcall
          clear hT
          go_enter Tryz.func40, Tryz.ntmps40
          go_wp2_with fail
          refine Calls.mono hcall.out ?_
          rintro e w1 ⟨rfl, nq, rfl⟩
          go_wp2
          go_ret2
          exact ⟨ret_ans HA.out.symm, Below.drewN (Below.refl _ _) _⟩
        · obtain ⟨m, rfl⟩ := Int.eq_ofNat_of_zero_le (show 0 ≤ n from by omega)
          have e : usAns t s (m : Int) = usR t s m := by
            unfold usAns usR
            rw [if_neg hl, if_neg (by omega), if_neg (by rw [hT]; simp), Int.toNat_natCast]
          rw [e]
          exact refUns_mid t s m w ht (by omega) (by omega) hT
theorem unsqueezes_law (t s : ByteArray) (n : Int) (w : World) (ht : t.size ≤ maxLen) (hs : s.size ≤ maxLen) (_hn : (Lit.int .i64 n).wf = true) :
    Calls Tryz.prog 14 #[.string t, .string s, .int .i64 n] w fun e w' => e = .returned (.bool true) ∧ Below w.heap.size w w' := by
  have H1 := hid (unsqueeze_any t s n w ht hs)
  have H2 := hid (fun w => refUns_any t s n w ht hs)
  generalize usAns t s n = a at *
  obtain ⟨a, m⟩ := a
  go_enter Tryz.func14, Tryz.ntmps14
  go_wp2_with fail
  refine Calls.mono H1.out ?_
  rintro e w1 ⟨rfl, b1⟩
  go_wp2_with fail
  refine Calls.mono (H2.out _) ?_
  rintro e w2 ⟨rfl, b2⟩
  go_wp2
  go_ret
  exact ⟨by simp, b1.trans (b2.mono b1.size)⟩
end Go.Proofs.YtnconbpneimjiaaGreat

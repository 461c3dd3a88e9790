/-
  P11, P12: the laws Encodes, Decodes, Restored, Short.
-/
import Derived.Test.YtdpaambflachfaaEncProg
import Derived.Test.YtdpaambflachfaaRefEnc
import Derived.Test.YtdpaambflachfaaRefPlay
import Derived.Test.YtdpaambflachfaaKeepFile
namespace Go.Proofs.Ytdpaambflachfaa
open Go.RowKit Go.PlainAid

set_option maxRecDepth 100000 in
set_option maxHeartbeats 800000 in
theorem encodes_law (f r : ByteArray) (w : World) (hf : f.size ≤ maxLen) (hr : r.size ≤ maxLen) :
    Calls Try.prog 8 #[.string f, .string r] w fun e w' => e = .returned (.bool true) ∧ Below w.heap.size w w' := by
  have H1 := hid (encode_any f r w hf hr)
  have H2 := hid (fun w => refEncode_any f r w hf hr)
  generalize enAns f r = a at *
  obtain ⟨a, n⟩ := a
  go_enter Try.func8, Try.ntmps8
  go_wp2_with fail
  refine Calls.mono H1.out ?_
  rintro e w1 ⟨rfl, b1⟩
  go_wp2_with fail
  refine Calls.mono (H2.out _) ?_
  rintro e w2 ⟨rfl, b2⟩
  go_wp2
  go_ret
  exact ⟨by simp, b1.trans (b2.mono b1.size)⟩
set_option maxRecDepth 100000 in
set_option maxHeartbeats 800000 in
theorem decodes_law (f g : ByteArray) (w : World) (hf : f.size ≤ maxLen) (hg : g.size ≤ maxLen) :
    Calls Try.prog 9 #[.string f, .string g] w fun e w' => e = .returned (.bool true) ∧ Below w.heap.size w w' := by
  have H1 := hid (decode_any f g w hf hg)
  have H2 := hid (fun w => refDecode_any f g w hf hg)
  generalize dcAns f g = a at *
  obtain ⟨a, n⟩ := a
  go_enter Try.func9, Try.ntmps9
  go_wp2_with fail
  refine Calls.mono H1.out ?_
  rintro e w1 ⟨rfl, b1⟩
  go_wp2_with fail
  refine Calls.mono (H2.out _) ?_
  rintro e w2 ⟨rfl, b2⟩
  go_wp2
  go_ret
  exact ⟨by simp, b1.trans (b2.mono b1.size)⟩

set_option maxRecDepth 100000 in
set_option maxHeartbeats 1600000 in
theorem restored_law (f : ByteArray) (id : Int) (text content record : ByteArray) (w : World) (hf : f.size ≤ maxLen) (hi : (Lit.int .i64 id).wf = true) (ht : text.size ≤ maxLen) (hc : content.size ≤ maxLen) (hr : record.size ≤ maxLen) :
    Calls Try.prog 10 #[.string f, .int .i64 id, .string text, .string content, .string record] w fun e w' => e = .returned (.bool true) ∧ Below w.heap.size w w' := by
  have bi := bounds_i64 hi
  have K0 := hid (upTo_any record 500 w hr (by omega))
  have hr5 := upN_le record 500
  have K1 := hid (fun w => parse_any f w hf)
  by_cases h : pOk f
  · have K2 := hid (fun w => encode_any f (upN record 500) w hf (by unfold maxLen; omega))
    rw [enAns_ok (by omega) h] at K2
    obtain ⟨d1, d2, d3⟩ := dec_enc_frm h hr5
    have K3 := hid (fun w => decode_any f (enFrm f (upN record 500)) w hf (by unfold maxLen; omega))
    rw [d1] at K3
    rw [pAns_yes h] at K1
    simp only [parV] at K1
    clear h d1 hi
    generalize enFrm f (upN record 500) = S at *
    generalize upN record 500 = R at *
    generalize (num f 3 2 : Int) = I at *
    generalize f.extract 6 (pT f) = T at *
    generalize f.extract (pT f + 2) (pE f) = C at *
    have z1 : decide ((S.size : Int) < 14) = false := by simp; omega
    have z2 : decide (14 + (R.size : Int) < (S.size : Int)) = false := by simp; omega
    go_enter Try.func10, Try.ntmps10
    go_wp2_with fail
    refine Calls.mono K0.out ?_
    rintro e w1 ⟨rfl, k1⟩
    rw [k1]
    clear k1 w1
    go_wp2_with fail
    refine Calls.mono (K1.out _) ?_
    rintro e w2 ⟨rfl, b2⟩
    go_wp2_with fail
    refine Calls.mono (K2.out _) ?_
    rintro e w3 ⟨rfl, b3⟩
    go_wp2_with fail
    refine Calls.mono (K3.out _) ?_
    rintro e w4 ⟨rfl, b4⟩
    go_wp2
    go_ret
    have B3 := b2.trans (b3.mono b2.size)
    exact ⟨by simp, B3.trans (b4.mono B3.size)⟩
  · have K2 := hid (fun w => encode_any f (upN record 500) w hf (by unfold maxLen; omega))
    rw [enAns_file (by omega) h] at K2
    have K3 := hid (fun w => keepFile_any id text content w bi.1 bi.2 ht hc)
    obtain ⟨p1, p2, p3, p4⟩ := kFile_ok id text content
    have K4 := hid (fun w => encode_any (kFile id text content) (upN record 500) w (by unfold maxLen; omega) (by unfold maxLen; omega))
    rw [enAns_ok (by omega) p1] at K4
    obtain ⟨d1, d2, d3⟩ := dec_enc_frm p1 hr5
    have K5 := hid (fun w => decode_any (kFile id text content) (enFrm (kFile id text content) (upN record 500)) w (by unfold maxLen; omega) (by unfold maxLen; omega))
    rw [d1] at K5
    rw [pAns_no h] at K1
    simp only [parV] at K1
    clear h d1 hi p1 p2 p4
    generalize enFrm (kFile id text content) (upN record 500) = S at *
    generalize kFile id text content = F at *
    generalize upN record 500 = R at *
    have z1 : decide ((S.size : Int) < 14) = false := by simp; omega
    have z2 : decide (14 + (R.size : Int) < (S.size : Int)) = false := by simp; omega
    go_enter Try.func10, Try.ntmps10
    go_wp2_with fail
    refine Calls.mono K0.out ?_
    rintro e w1 ⟨rfl, k1⟩
    rw [k1]
    clear k1 w1
    go_wp2_with fail
    refine Calls.mono (K1.out _) ?_
    rintro e w2 ⟨rfl, b2⟩
    go_wp2_with fail
    refine Calls.mono (K2.out _) ?_
    rintro e w3 ⟨rfl, b3⟩
    go_wp2_with fail
    refine Calls.mono (K3.out _) ?_
    rintro e w4 ⟨rfl, b4⟩
    go_wp2_with fail
    refine Calls.mono (K4.out _) ?_
    rintro e w5 ⟨rfl, b5⟩
    go_wp2_with fail
    refine Calls.mono (K5.out _) ?_
    rintro e w6 ⟨rfl, b6⟩
    go_wp2
    go_ret
    have B3 := b2.trans (b3.mono b2.size)
    have B4 := B3.trans (b4.mono B3.size)
    have B5 := B4.trans (b5.mono B4.size)
    exact ⟨by simp, B5.trans (b6.mono B5.size)⟩

set_option maxRecDepth 100000 in
set_option maxHeartbeats 1600000 in
theorem short_law (id : Int) (text content : ByteArray) (fr n : Int) (w : World) (hi : (Lit.int .i64 id).wf = true) (ht : text.size ≤ maxLen) (hc : content.size ≤ maxLen) (hfr : (Lit.int .i64 fr).wf = true) (hn : (Lit.int .i64 n).wf = true) :
    Calls Try.prog 11 #[.int .i64 id, .string text, .string content, .int .i64 fr, .int .i64 n] w fun e w' => e = .returned (.bool true) ∧ Below w.heap.size w w' := by
  have bi := bounds_i64 hi
  have bf := bounds_i64 hfr
  have bn := bounds_i64 hn
  have h2 := smN_bd content (n := 500) (by omega)
  obtain ⟨p1, p2, p3, p4⟩ := kFile_ok id text content
  have K1 := hid (keepFile_any id text content w bi.1 bi.2 ht hc)
  have K2 := hid (fun w => someN_any content 500 w hc (by omega))
  have K3 := hid (fun w => pk_any fr (smN content 500).size w bf.1 bf.2 h2.1 (by omega))
  have hi1 := pk_lt fr h2.1
  obtain ⟨i, hie⟩ : ∃ i, pk fr (smN content 500).size = i := ⟨_, rfl⟩
  rw [hie] at K3 hi1
  have K4 := hid (fun w => pk_any n ((smN content 500).size - i + 1) w bn.1 bn.2 (by omega) (by omega))
  have hk1 := pk_lt n (n := (smN content 500).size - i + 1) (by omega)
  obtain ⟨k, hke⟩ : ∃ k, pk n ((smN content 500).size - i + 1) = k := ⟨_, rfl⟩
  rw [hke] at K4 hk1
  have hik : i + k ≤ (smN content 500).size := by omega
  have hsh := short_frm p1 (i := i) (k := k) (by rw [p2]; exact hik)
  rw [p2] at hsh
  have hrs : ((smN content 500).extract i (i + k)).size = k := by rw [ext_size _ _ _ hik]; omega
  have K5 := hid (fun w => encode_any (kFile id text content) ((smN content 500).extract i (i + k)) w (by unfold maxLen; omega) (by unfold maxLen; omega))
  rw [enAns_ok (by omega) p1] at K5
  obtain ⟨d1, d2, d3⟩ := dec_enc_frm p1 (r := (smN content 500).extract i (i + k)) (by omega)
  have K6 := hid (fun w => decode_any (kFile id text content) (enFrm (kFile id text content) ((smN content 500).extract i (i + k))) w (by unfold maxLen; omega) (by unfold maxLen; omega))
  rw [d1] at K6
  have em : ((smN content 500).size : Int) - (i : Int) + 1 = (((smN content 500).size - i + 1 : Nat) : Int) := by omega
  clear d1 p1 p2 p4 hi hfr hn hie hke
  generalize enFrm (kFile id text content) ((smN content 500).extract i (i + k)) = S at *
  generalize kFile id text content = F at *
  generalize smN content 500 = C at *
  generalize C.size - i + 1 = n2 at *
  have z1 : decide ((S.size : Int) < 14) = false := by simp; omega
  have z2 : decide ((22 : Int) < (S.size : Int)) = false := by simp; omega
  have hself : ((C.extract i (i + k)).toList == (C.extract i (i + k)).toList) = true := by simp
  go_enter Try.func11, Try.ntmps11
  go_wp2_with fail
  refine Calls.mono K1.out ?_
  rintro e w1 ⟨rfl, b1⟩
  go_wp2_with fail
  refine Calls.mono (K2.out _) ?_
  rintro e w2 ⟨rfl, k2⟩
  rw [k2]
  clear k2 w2
  go_wp2_with fail
  refine Calls.mono (K3.out _) ?_
  rintro e w2 ⟨rfl, k2⟩
  rw [k2]
  clear k2 w2
  go_wp2_with fail
  refine Calls.mono (K4.out _) ?_
  rintro e w2 ⟨rfl, k2⟩
  rw [k2]
  clear k2 w2
  go_wp2_with fail
  refine Calls.mono (K5.out _) ?_
  rintro e w5 ⟨rfl, b5⟩
  go_wp2_with fail
  refine Calls.mono (K6.out _) ?_
  rintro e w6 ⟨rfl, b6⟩
  go_wp2
  go_ret
  have B5 := b1.trans (b5.mono b1.size)
  exact ⟨by simp, B5.trans (b6.mono B5.size)⟩
end Go.Proofs.Ytdpaambflachfaa

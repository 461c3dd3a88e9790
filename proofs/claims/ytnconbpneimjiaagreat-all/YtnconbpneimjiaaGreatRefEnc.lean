/-
  P11: the walks of the document's Count, longest, loosely, packed, Encode.
  P11: the walks of the document's loosely, packed, Encode.
-/
import Derived.Test.YtnconbpneimjiaaGreatFrmAux
import Derived.Test.YtnconbpneimjiaaGreatFileParse
import Derived.BigQuiet
import Derived.Test.YtnconbpneimjiaaGreatRefSqz
namespace Go.Proofs.YtnconbpneimjiaaGreat
open Go.RowKit Go.PlainAid

/-! ### P11: the walks of the document's Count, longest, loosely, packed, Encode. -/
theorem ret_str2 {a b : ByteArray} (h : a = b) : Ending.returned (.string a) = .returned (.string b) := by rw [h]
theorem ret_nn {a b c d : Int} (h1 : a = b) (h2 : c = d) : Ending.returned (.tuple #[.int .i64 a, .int .i64 c]) = .returned (.tuple #[.int .i64 b, .int .i64 d]) := by rw [h1, h2]

set_option maxRecDepth 100000 in
set_option maxHeartbeats 400000 in
theorem refCount_any (n : Nat) (w : World) (hn : n ≤ 16383) :
    Calls Tryz.prog 118 #[.int .i64 n] w fun e w' => e = .returned (.string (ctB n)) ∧ Below w.heap.size w w' := by
  by_cases c : n < 128
  · have HE := hid (ctB_one c)
    have HC := hid (fun w => little_any n 1 w (by omega) (by omega))
    go_enter Tryz.func118, Tryz.ntmps118
    go_wp2_with fail
    refine Calls.mono (HC.out _) ?_
    rintro e w1 ⟨rfl, b1⟩
    go_wp2
    go_ret
    exact ⟨ret_str2 HE.out.symm, b1⟩
  · have HE := hid (ctB_two c)
    have HC := hid (fun w => little_any (128 + n % 128 + 256 * (n / 128)) 2 w (by omega) (by omega))
    have c' : ¬ (n : Int) < 128 := by omega
    go_enter Tryz.func118, Tryz.ntmps118
    go_wp2_with fail
    refine Calls.mono (HC.out _) ?_
    rintro e w1 ⟨rfl, b1⟩
    go_wp2
    go_ret
    exact ⟨ret_str2 HE.out.symm, b1⟩

set_option maxRecDepth 100000 in
set_option maxHeartbeats 800000 in
theorem longest_any (s : ByteArray) (p : Nat) (w : World) (hs : s.size ≤ 2000) (hp : p < s.size) :
    Calls Tryz.prog 117 #[.string s, .int .i64 p] w fun e w' => e = .returned (.tuple #[.int .i64 ((lgTo s p p).1 : Int), .int .i64 ((lgTo s p p).2 : Int)]) ∧ ∃ n, w' = w.drewN n := by
  have hb := get_btn s
  have HSTEP := hid (fun d => show lgTo s p (d + 1) = if (lgTo s p d).1 < mlen s (d + 1) p then (mlen s (d + 1) p, d + 1) else lgTo s p d from rfl)
  have HLE := hid (fun d => lgTo_le s p d)
  have H0 := hid (show lgTo s p 0 = (0, 0) from rfl)
  generalize lgTo s p = G at *
  go_enter Tryz.func117, Tryz.ntmps117
  go_wp2
  go_loopw [6, 7, 8, 9] (fun q r i _ wr => ∃ d m : Nat, d ≤ p ∧ i = .int .i64 ((d : Int) + 1) ∧ q = .int .i64 ((G d).1 : Int) ∧ r = .int .i64 ((G d).2 : Int) ∧ wr = w.drewN m) (fun _ _ i _ _ => p + 1 - (intOf i).toNat)
  case atStart => exact ⟨0, 0, Nat.zero_le _, rfl, by rw [H0.out]; rfl, by rw [H0.out]; rfl, rfl⟩
  case round =>
    obtain ⟨d, m, hd, rfl, rfl, rfl, rfl⟩ := hrel
    have hle := HLE.out d
    by_cases hlt : d < p
    · have hdp : decide ((d : Int) + 1 ≤ (p : Int)) = true := by simp; omega
      have HST := hid (HSTEP.out d)
      have hml := mlen_le s (d + 1) p
      have HSM := hid (fun i (h : i < mlen s (d + 1) p) => mlen_same s (d + 1) p i h)
      have HSP := hid (fun (h : p + mlen s (d + 1) p < s.size) => mlen_stop s (d + 1) p h)
      generalize mlen s (d + 1) p = M at *
      generalize G d = fk at *
      obtain ⟨best, dist⟩ := fk
      simp only at hle HST ⊢
      go_wp2_with fail
      go_loopw [9] (fun v wi => ∃ j q : Nat, j ≤ M ∧ v = .int .i64 j ∧ wi = w.drewN q) (fun v _ => M - (intOf v).toNat)
      case atStart => exact ⟨0, m, Nat.zero_le _, rfl, rfl⟩
      case round =>
        obtain ⟨j, q, hj, rfl, rfl⟩ := hrel
        by_cases hend : p + j < s.size
        · have hcnd : decide ((p : Int) + (j : Int) < (s.size : Int)) = true := by simp; omega
          have hi1 : (p : Int) + (j : Int) < (s.size : Int) := by omega
          have hi2 : (p : Int) + (j : Int) - ((d : Int) + 1) < (s.size : Int) := by omega
          have hi3 : 0 ≤ (p : Int) + (j : Int) - ((d : Int) + 1) := by omega
          have b1 := btn_lt s (p + j)
          have b2 := btn_lt s (p + j - (d + 1))
          by_cases hjM : j < M
          · have hq : ((btn s (p + j) : Int) == (btn s (p + j - (d + 1)) : Int)) = true := by rw [HSM.out j hjM]; simp
            go_wp2_with fail
            go_quiet (fail)
            go_wp2
            go_roundw
            case rel => exact ⟨j + 1, q + nq, by omega, by go_num, rfl⟩
            case measure => simp [intOf]; omega
          · have HJ := hid (show j = M from by omega)
            have hq : ((btn s (p + j) : Int) == (btn s (p + j - (d + 1)) : Int)) = false := by
              have := HSP.out (by rw [← HJ.out]; exact hend)
              rw [← HJ.out] at this
              exact beq_eq_false_iff_ne.2 (by omega)
            by_cases c : best < j
            · rw [← HJ.out, if_pos c] at HST
              have c' : (best : Int) < (j : Int) := by omega
              go_wp2_with fail
              go_quiet (fail)
              go_wp2
              go_roundw
              case rel => exact ⟨d + 1, q + nq, by omega, by go_num, by rw [HST.out], by rw [HST.out]; go_num, rfl⟩
              case measure => simp [intOf]; omega
            · rw [← HJ.out, if_neg c] at HST
              have c' : ¬ (best : Int) < (j : Int) := by omega
              go_wp2_with fail
              go_quiet (fail)
              go_wp2
              go_roundw
              case rel => exact ⟨d + 1, q + nq, by omega, by go_num, by rw [HST.out], by rw [HST.out], rfl⟩
              case measure => simp [intOf]; omega
        · have HJ := hid (show j = M from by omega)
          have hcnd : decide ((p : Int) + (j : Int) < (s.size : Int)) = false := by simp; omega
          by_cases c : best < j
          · rw [← HJ.out, if_pos c] at HST
            have c' : (best : Int) < (j : Int) := by omega
            go_wp2_with fail
            go_quiet (fail)
            go_wp2
            go_roundw
            case rel => exact ⟨d + 1, q + nq, by omega, by go_num, by rw [HST.out], by rw [HST.out]; go_num, rfl⟩
            case measure => simp [intOf]; omega
          · rw [← HJ.out, if_neg c] at HST
            have c' : ¬ (best : Int) < (j : Int) := by omega
            go_wp2_with fail
            go_quiet (fail)
            go_wp2
            go_roundw
            case rel => exact ⟨d + 1, q + nq, by omega, by go_num, by rw [HST.out], by rw [HST.out], rfl⟩
            case measure => simp [intOf]; omega
    · have HD := hid (show d = p from by omega)
      have hdp : decide ((d : Int) + 1 ≤ (p : Int)) = false := by simp; omega
      go_wp2
      go_ret2
      exact ⟨ret_nn (by rw [HD.out]) (by rw [HD.out]), m, rfl⟩

/-! ### P11: the walks of the document's loosely, packed, Encode. -/
set_option maxRecDepth 100000 in
set_option maxHeartbeats 800000 in
theorem loosely_any (t s : ByteArray) (w : World) (ht : t.size ≤ maxLen) (hs : s.size ≤ 1000) :
    Calls Tryz.prog 119 #[.string t, .string s] w fun e w' => e = .returned (.string (looB t s)) ∧ Below w.heap.size w w' := by
  have H1 := hid (fun w => refCount_any s.size w (by omega))
  have H2 := hid (fun w => refSqueeze_any t s w ht (by unfold maxLen; omega))
  have hsq := sqAns_size t s
  have H3 := hid (fun w => refCount_any (sqAns t s).1.size w (by omega))
  have HL := hid (show looB t s = if (sqAns t s).2 = 0 ∧ (ctB (sqAns t s).1.size).size + (sqAns t s).1.size < s.size then ctB s.size ++ ⟨#[1]⟩ ++ ctB (sqAns t s).1.size ++ (sqAns t s).1 else ctB s.size ++ ⟨#[0]⟩ ++ s from rfl)
  generalize sqAns t s = q at *
  obtain ⟨st, e⟩ := q
  simp only at hsq H2 H3 HL
  have z1 := ctB_size s.size
  have z2 := ctB_size st.size
  have o1 : (⟨#[1]⟩ : ByteArray).size = 1 := rfl
  have o0 : (⟨#[0]⟩ : ByteArray).size = 1 := rfl
  rw [HL.out]
  clear HL
  generalize ctB s.size = cs at *
  generalize ctB st.size = cm at *
  by_cases he : e = 0
  · have he' : (e == 0) = true := by simp [he]
    by_cases hl : cm.size + st.size < s.size
    · rw [if_pos ⟨he, hl⟩]
      have hl' : decide ((cm.size : Int) + (st.size : Int) < (s.size : Int)) = true := by simp; omega
      clear he
      go_enter Tryz.func119, Tryz.ntmps119
      go_wp2_with fail
      refine Calls.mono (H1.out _) ?_
      rintro e w1 ⟨rfl, b1⟩
      go_wp2_with fail
      refine Calls.mono (H2.out _) ?_
      rintro e w2 ⟨rfl, b2⟩
      go_wp2_with fail
      refine Calls.mono (H3.out _) ?_
      rintro e w3 ⟨rfl, b3⟩
      go_wp2
      go_ret
      have B2 := b1.trans (b2.mono b1.size)
      exact ⟨rfl, B2.trans (b3.mono B2.size)⟩
    · rw [if_neg (fun q => hl q.2)]
      have hl' : decide ((cm.size : Int) + (st.size : Int) < (s.size : Int)) = false := by simp; omega
      clear he
      go_enter Tryz.func119, Tryz.ntmps119
      go_wp2_with fail
      refine Calls.mono (H1.out _) ?_
      rintro e w1 ⟨rfl, b1⟩
      go_wp2_with fail
      refine Calls.mono (H2.out _) ?_
      rintro e w2 ⟨rfl, b2⟩
      go_wp2_with fail
      refine Calls.mono (H3.out _) ?_
      rintro e w3 ⟨rfl, b3⟩
      go_wp2
      go_ret
      have B2 := b1.trans (b2.mono b1.size)
      exact ⟨rfl, B2.trans (b3.mono B2.size)⟩
  · rw [if_neg (fun q => he q.1)]
    have he' : (e == 0) = false := beq_eq_false_iff_ne.2 he
    go_enter Tryz.func119, Tryz.ntmps119
    go_wp2_with fail
    refine Calls.mono (H1.out _) ?_
    rintro e w1 ⟨rfl, b1⟩
    go_wp2_with fail
    refine Calls.mono (H2.out _) ?_
    rintro e w2 ⟨rfl, b2⟩
    go_wp2_with fail
    refine Calls.mono (H3.out _) ?_
    rintro e w3 ⟨rfl, b3⟩
    go_wp2
    go_ret
    have B2 := b1.trans (b2.mono b1.size)
    exact ⟨rfl, B2.trans (b3.mono B2.size)⟩

set_option maxRecDepth 100000 in
set_option maxHeartbeats 1600000 in
theorem packed_any (t c r : ByteArray) (w : World) (ht : t.size ≤ maxLen) (hc : c.size ≤ 500) (hr : r.size ≤ 500) :
    Calls Tryz.prog 89 #[.string t, .string c, .string r] w fun e w' => e = .returned (.string (enBody t c r)) ∧ Below w.heap.size w w' := by
  have hall : (c ++ r).size = c.size + r.size := ByteArray.size_append
  have HB := hid (show enBody t c r = looB t (bodA c r).1 ++ ctB (bodA c r).2.2 ++ (bodA c r).2.1 from rfl)
  have hA : bodA c r = bodS (c ++ r) (r.size + 1) c.size ⟨#[]⟩ ⟨#[]⟩ 0 0 := rfl
  have HA := hid hA
  clear hA
  rw [HB.out]
  clear HB
  generalize bodA c r = Q at *
  generalize hAL : c ++ r = all at *
  have HAL := hid hAL
  clear hAL
  go_enter Tryz.func89, Tryz.ntmps89
  go_wp2_with fail
  rw [HAL.out]
  go_loopg [8, 9, 10, 11, 12, 13, 14, 15, 16, 17] (r.size + 1) (fun gh lo co n ah at' _ _ _ _ _ wr => ∃ (l o : ByteArray) (m a p : Nat), lo = .string l ∧ co = .string o ∧ n = .int .i64 m ∧ ah = .int .i64 a ∧ at' = .int .i64 p ∧ c.size ≤ p ∧ p ≤ all.size ∧ l.size + 4 * m ≤ p - c.size ∧ o.size ≤ 6 * m ∧ a ≤ p - c.size ∧ all.size - p < gh ∧ Q = bodS all gh p l o m a ∧ Below w.heap.size w wr)
  case atStart => exact ⟨⟨#[]⟩, ⟨#[]⟩, 0, 0, c.size, rfl, rfl, rfl, rfl, rfl, Nat.le_refl _, by omega, by show 0 + 4 * 0 ≤ c.size - c.size; omega, by show 0 ≤ 6 * 0; omega, Nat.zero_le _, by omega, HA.out, Below.refl _ _⟩
  case round =>
    obtain ⟨l, o, m, a, p, rfl, rfl, rfl, rfl, rfl, hp1, hp2, hl, ho, ha, hf, hQ, hbel⟩ := hrel
    obtain ⟨f, hfe⟩ : ∃ f, gk = f + 1 := ⟨gk - 1, by omega⟩
    subst hfe
    have HQ := hid hQ
    clear hQ
    have hsz := hbel.size
    by_cases hlt : p < all.size
    · have hcall := hid (longest_any all p wr (by omega) hlt)
      have hlg := lgTo_le all p p
      have HS := hid (show bodS all (f + 1) p l o m a = if p < all.size then (if (lgTo all p p).1 < 4 then bodS all f (p + 1) (l ++ all.extract p (p + 1)) o m (a + 1) else bodS all f (p + (lgTo all p p).1) l (o ++ ctB a ++ ctB ((lgTo all p p).1 - 4) ++ ctB (lgTo all p p).2) (m + 1) 0) else (l, o, m) from rfl)
      rw [if_pos hlt] at HS
      generalize lgTo all p p = q at *
      obtain ⟨len, dist⟩ := q
      simp only at hlg HS hcall
      by_cases h4 : len < 4
      · rw [if_pos h4] at HS
        have HN := hid (HQ.out.trans HS.out)
        have h4' : (len : Int) < 4 := by omega
        have hex : (all.extract p (p + 1)).size = 1 := by rw [ext_size _ _ _ (by omega)]; omega
        clear HS HQ
        go_wp2_with (go_at_call 117; refine Calls.mono hcall.out ?_; rintro e w' ⟨rfl, nq, rfl⟩)
        go_roundg f
        case measure => omega
        case rel => exact ⟨_, o, m, a + 1, p + 1, rfl, rfl, rfl, by go_num, by go_num, by omega, by omega, by rw [ByteArray.size_append, hex]; omega, ho, by omega, by omega, HN.out, Below.drewN hbel _⟩
      · rw [if_neg h4] at HS
        have HN := hid (HQ.out.trans HS.out)
        have h4' : ¬ (len : Int) < 4 := by omega
        have k1 := hid (fun w => refCount_any a w (by omega))
        have k2 := hid (fun w => refCount_any (len - 4) w (by omega))
        have k3 := hid (fun w => refCount_any dist w (by omega))
        have e4 : (len : Int) - 4 = ((len - 4 : Nat) : Int) := by omega
        have z1 := ctB_size a
        have z2 := ctB_size (len - 4)
        have z3 := ctB_size dist
        clear HS HQ
        generalize len - 4 = l4 at *
        generalize ctB a = C1 at *
        generalize ctB l4 = C2 at *
        generalize ctB dist = C3 at *
        go_wp2_with fail
        refine Calls.mono hcall.out ?_
        rintro e w1 ⟨rfl, nq, rfl⟩
        go_wp2_with fail
        refine Calls.mono (k1.out _) ?_
        rintro e w2 ⟨rfl, b2⟩
        go_wp2_with fail
        refine Calls.mono (k2.out _) ?_
        rintro e w3 ⟨rfl, b3⟩
        go_wp2_with fail
        refine Calls.mono (k3.out _) ?_
        rintro e w4 ⟨rfl, b4⟩
        go_wp2
        go_roundg f
        case measure => omega
        case rel =>
          have B1 : Below w.heap.size w (wr.drewN nq) := Below.drewN hbel nq
          have B2 := B1.trans (b2.mono B1.size)
          have B3 := B2.trans (b3.mono B2.size)
          have B4 := B3.trans (b4.mono B3.size)
          exact ⟨l, _, m + 1, 0, p + len, rfl, rfl, by go_num, rfl, by go_num, by omega, by omega, by omega, by rw [ByteArray.size_append, ByteArray.size_append, ByteArray.size_append]; omega, by omega, by omega, HN.out, B4⟩
    · have HE := hid (show Q = (l, o, m) from by rw [HQ.out, bodS, if_neg hlt])
      have hlt' : ¬ (p : Int) < (all.size : Int) := by omega
      have k1 := hid (fun w => loosely_any t l w ht (by omega))
      have k2 := hid (fun w => refCount_any m w (by omega))
      have z1 := looB_le t l
      have z2 := ctB_size l.size
      have z3 := ctB_size m
      have HF := hid (show looB t Q.1 ++ ctB Q.2.2 ++ Q.2.1 = looB t l ++ ctB m ++ o from by rw [HE.out])
      clear HQ HE
      generalize looB t l = LB at *
      generalize ctB m = CM at *
      go_wp2_with fail
      refine Calls.mono (k1.out _) ?_
      rintro e w2 ⟨rfl, b2⟩
      go_wp2_with fail
      refine Calls.mono (k2.out _) ?_
      rintro e w3 ⟨rfl, b3⟩
      go_wp2
      go_ret
      have B2 := hbel.trans (b2.mono hsz)
      exact ⟨ret_str2 HF.out.symm, B2.trans (b3.mono B2.size)⟩

set_option maxRecDepth 100000 in
set_option maxHeartbeats 1600000 in
theorem refEncode_any (f r : ByteArray) (w : World) (hf : f.size ≤ maxLen) (hr : r.size ≤ maxLen) :
    Calls Tryz.prog 50 #[.string f, .string r] w fun e w' => e = .returned (.tuple #[.string (enAns f r).1, .int .i64 (enAns f r).2]) ∧ Below w.heap.size w w' := by
  by_cases hl : 500 < r.size
  · have HA := hid (enAns_long (f := f) hl)
    unfold maxLen at hr
    have hl' : (500 : Int) < (r.size : Int) := by omega
    rw [HA.out]
    go_enter Tryz.func50, Tryz.ntmps50
    go_wp2
    go_ret2
    exact ⟨rfl, Below.refl _ _⟩
  · have hl' : ¬ (500 : Int) < (r.size : Int) := by omega
    have HP := hid (refParse_any f w hf)
    by_cases h : pOk f
    · have HA := hid (enAns_ok hl h)
      rw [HA.out]
      obtain ⟨hcz, hf13⟩ := pOk_con h
      have htz : (pAns f).2.1.size ≤ maxLen := (par_cases f).elim (fun q => by rw [pAns_yes h] at q; simp at q) (fun q => q.2.2.2.1)
      have hn := num_lt f 3 2
      have K1 := hid (fun w => little_any (num f 3 2) 2 w (by omega) (by omega))
      have K2 := hid (fun w => little_any r.size 2 w (by omega) (by omega))
      have K3 := hid (fun w => refSumW_any r w (by unfold maxLen; omega))
      have K4 := hid (fun w => little_any (wSum r) 4 w (wSum_lt r) (by omega))
      have K5 := hid (fun w => packed_any (pAns f).2.1 (pAns f).2.2.1 r w htz hcz (by omega))
      have hbz := enBody_size (pAns f).2.1 (pAns f).2.2.1 r (by omega)
      have HFR := hid (show enFrm f r = if (enBody (pAns f).2.1 (pAns f).2.2.1 r).size < r.size then ⟨#[70, 1]⟩ ++ (le (num f 3 2) 2 ++ f.extract (f.size - 4) f.size ++ le r.size 2 ++ le (wSum r) 4) ++ enBody (pAns f).2.1 (pAns f).2.2.1 r else ⟨#[70, 0]⟩ ++ (le (num f 3 2) 2 ++ f.extract (f.size - 4) f.size ++ le r.size 2 ++ le (wSum r) 4) ++ r from rfl)
      have HPA := hid (show pAns f = ((num f 3 2 : Int), (pAns f).2.1, (pAns f).2.2.1, 0) from by rw [pAns_yes h])
      rw [HPA.out] at HP
      simp only [parV] at HP
      have hws := wSum_lt r
      have e1 : (le (num f 3 2) 2).size = 2 := le_size _ _
      have e2 : (le r.size 2).size = 2 := le_size _ _
      have e3 : (le (wSum r) 4).size = 4 := le_size _ _
      obtain ⟨q, hq⟩ : ∃ q, f.size - 4 = q := ⟨_, rfl⟩
      rw [hq] at HFR
      have hqi : (f.size : Int) - 4 = (q : Int) := by omega
      have hq2 : q ≤ f.size := by omega
      have eF : (f.extract q f.size).size = 4 := by rw [ext_size _ _ _ (Nat.le_refl _)]; omega
      have o1 : (⟨#[70, 1]⟩ : ByteArray).size = 2 := rfl
      have o0 : (⟨#[70, 0]⟩ : ByteArray).size = 2 := rfl
      unfold maxLen at hf
      rw [HFR.out]
      clear HFR HPA HA h hq htz hcz
      generalize enBody (pAns f).2.1 (pAns f).2.2.1 r = BD at *
      generalize (pAns f).2.1 = T at *
      generalize (pAns f).2.2.1 = C at *
      generalize num f 3 2 = N at *
      generalize wSum r = S at *
      generalize le N 2 = L1 at *
      generalize le r.size 2 = L2 at *
      generalize le S 4 = L3 at *
      by_cases hb : BD.size < r.size
      · rw [if_pos hb]
        have hb' : (BD.size : Int) < (r.size : Int) := by omega
        go_enter Tryz.func50, Tryz.ntmps50
        go_wp2_with fail
        refine Calls.mono HP.out ?_
        rintro e w0 ⟨rfl, b0⟩
        go_wp2_with fail
        refine Calls.mono (K1.out _) ?_
        rintro e w1 ⟨rfl, b1⟩
        go_wp2_with fail
        refine Calls.mono (K2.out _) ?_
        rintro e w2 ⟨rfl, b2⟩
        go_wp2_with fail
        refine Calls.mono (K3.out _) ?_
        rintro e w3 ⟨rfl, k3⟩
        rw [k3]
        clear k3 w3
        go_wp2_with fail
        refine Calls.mono (K4.out _) ?_
        rintro e w4 ⟨rfl, b4⟩
        go_wp2_with fail
        refine Calls.mono (K5.out _) ?_
        rintro e w5 ⟨rfl, b5⟩
        go_wp2
        go_ret2
        have B1 := b0.trans (b1.mono b0.size)
        have B2 := B1.trans (b2.mono B1.size)
        have B4 := B2.trans (b4.mono B2.size)
        exact ⟨rfl, B4.trans (b5.mono B4.size)⟩
      · rw [if_neg hb]
        have hb' : ¬ (BD.size : Int) < (r.size : Int) := by omega
        go_enter Tryz.func50, Tryz.ntmps50
        go_wp2_with fail
        refine Calls.mono HP.out ?_
        rintro e w0 ⟨rfl, b0⟩
        go_wp2_with fail
        refine Calls.mono (K1.out _) ?_
        rintro e w1 ⟨rfl, b1⟩
        go_wp2_with fail
        refine Calls.mono (K2.out _) ?_
        rintro e w2 ⟨rfl, b2⟩
        go_wp2_with fail
        refine Calls.mono (K3.out _) ?_
        rintro e w3 ⟨rfl, k3⟩
        rw [k3]
        clear k3 w3
        go_wp2_with fail
        refine Calls.mono (K4.out _) ?_
        rintro e w4 ⟨rfl, b4⟩
        go_wp2_with fail
        refine Calls.mono (K5.out _) ?_
        rintro e w5 ⟨rfl, b5⟩
        go_wp2
        go_ret2
        have B1 := b0.trans (b1.mono b0.size)
        have B2 := B1.trans (b2.mono B1.size)
        have B4 := B2.trans (b4.mono B2.size)
        exact ⟨rfl, B4.trans (b5.mono B4.size)⟩
    · have HA := hid (enAns_file hl h)
      rw [HA.out]
      rw [pAns_no h] at HP
      simp only [parV] at HP
      clear h HA
      go_enter Tryz.func50, Tryz.ntmps50
      go_wp2_with fail
      refine Calls.mono HP.out ?_
      rintro e w0 ⟨rfl, b0⟩
      go_wp2
      go_ret2
      exact ⟨rfl, b0⟩
end Go.Proofs.YtnconbpneimjiaaGreat

/-
  P13 to P15: the walk of Keeps' begun.
-/
import Derived.Test.YtnconbpneimjiaaKeepBeg
namespace Go.Proofs.Ytnconbpneimjiaa
open Go.RowKit Go.PlainAid

theorem Try.infoText : (Try.prog.info? 9).map (fun i => (i.zero, i.size, i.bytes)) = some (some (.string ⟨#[]⟩), 1, 16) := by kernel_rfl
theorem bRow_new (w : World) (room : Int) : (w.alloc (.cells #[.pointer none, .int .i64 room, .slice none 0 0, .slice none 0 0, .slice none 0 0, .slice none 0 0, .slice none 0 0, .slice none 0 0, .slice none 0 0] 65)).rowIs w.heap.size 65 9 (bRow (.pointer none) room (fun _ => nilS)) :=
  World.rowIs_alloc w #[.pointer none, .int .i64 room, .slice none 0 0, .slice none 0 0, .slice none 0 0, .slice none 0 0, .slice none 0 0, .slice none 0 0, .slice none 0 0] 65 (bRow (.pointer none) room (fun _ => nilS)) (fun i hi => by
    have hi' : i < 9 := hi
    match i, hi' with
    | 0, _ => rfl
    | 1, _ => rfl
    | 2, _ => rfl
    | 3, _ => rfl
    | 4, _ => rfl
    | 5, _ => rfl
    | 6, _ => rfl
    | 7, _ => rfl
    | 8, _ => rfl)
theorem idK_int (i : Nat) : (i : Int) * (i : Int) * (i : Int) * 2427 = ((idK i : Nat) : Int) := by
  unfold idK
  simp [Int.natCast_mul]
theorem idK_bd {i : Nat} (h : i < 4) : 0 ≤ (i : Int) * (i : Int) ∧ (i : Int) * (i : Int) ≤ 9 ∧ 0 ≤ (i : Int) * (i : Int) * (i : Int) ∧ (i : Int) * (i : Int) * (i : Int) ≤ 27 := by
  have : i = 0 ∨ i = 1 ∨ i = 2 ∨ i = 3 := by omega
  rcases this with rfl | rfl | rfl | rfl <;> decide
set_option maxRecDepth 100000 in
set_option maxHeartbeats 12800000 in
theorem begun_any (s t : ByteArray) (r : Int) (w : World) (hs : s.size ≤ maxLen) (ht : t.size ≤ maxLen) (r0 : -9223372036854775808 ≤ r) (r1 : r ≤ 9223372036854775807) :
    Calls Try.prog 11 #[.string s, .string t, .int .i64 r] w fun e w' => ∃ b x room g c F bnd rec wth has by', e = .returned (.pointer (some ⟨b, 0, none⟩)) ∧ KSt w' w.heap.size b x room g c F [] (kFl s t) bnd rec wth has by' ∧ Below w.heap.size w w' := by
  obtain ⟨i0, hi, hz0, hz1, hz2⟩ := info_parts Try.infoInt
  obtain ⟨i1, gi, gz0, gz1, gz2⟩ := info_parts Try.infoBool
  obtain ⟨i2, ui, uz0, uz1, uz2⟩ := info_parts Try.infoText
  have KP := hid (fun w => pk_any r 4 w r0 r1 (by omega) (by omega))
  have hp := pk_lt r (n := 4) (by omega)
  generalize pk r 4 = q at *
  have KN := hid (fun w => pg_new (1 + (q : Int)) w (by omega))
  have HS := hid (fun w => someN_any s 800 w hs (by omega))
  have HT := hid (fun w => someN_any t 800 w ht (by omega))
  have KF0 := hid (fun f (hf : f < 8) => kFl_is s t hf)
  have HW0 := hid (bRow_new w (1 + (q : Int)))
  go_enter Try.func11, Try.ntmps11
  go_wp2_with (first
    | (go_at_call 7; refine Calls.mono (KP.out _) ?_; rintro e w1 ⟨rfl, kw⟩; rw [kw]; clear kw w1)
    | (go_at_call 9; refine Calls.mono (KN.out _) ?_; rintro e w1 ⟨x, F, rfl, ps, hF, b1⟩; have rw1 := hid (World.rowIs.of_block HW0.out (b1.block w.heap.size (by simp))); have rc0 := World.rowIs.cell rw1.out (i := 0) (by omega); have rf0 := World.rowIs.frozen rw1.out 0))
  have hsz1 := b1.size
  simp at hsz1
  have PSW := hid (ps.setc (a := ⟨w.heap.size, 0, none⟩) (fun q => by have h2 := hF _ q; simp at h2; omega) (.pointer (some ⟨x, 0, none⟩)))
  have hFl := hid ps.lt
  have hF2 := hid (show ∀ k, F k → w.heap.size + 1 ≤ k from fun k q => by have := hF k q; simpa using this)
  have BE := hid (show Beg (w1.setCell ⟨w.heap.size, 0, none⟩ (.pointer (some ⟨x, 0, none⟩))) w.heap.size w1.heap.size (.pointer (some ⟨x, 0, none⟩)) (1 + (q : Int)) (fun _ => nilS) (bN 0 0 0 0) (bX (kFl s t) 0 0 0 0) from
    ⟨by omega, World.rowIs.congr (World.rowIs.set rw1.out 0 _) (fun i hi => by
      match i, hi with
      | 0, _ => rfl
      | 1, _ => rfl
      | 2, _ => rfl
      | 3, _ => rfl
      | 4, _ => rfl
      | 5, _ => rfl
      | 6, _ => rfl
      | 7, _ => rfl
      | 8, _ => rfl), fun j hj => by
      have e1 : bN 0 0 0 0 j = 0 := by unfold bN; split <;> (try rfl); split <;> (try rfl); split <;> rfl
      have e2 : bX (kFl s t) 0 0 0 0 j = [] := by unfold bX; simp
      rw [e1, e2]
      exact World.ownsRow_nil _ _ _ _, fun i j _ _ _ => .inl rfl⟩)
  have hBW := hid ((((Below.refl w.heap.size w).alloc (Nat.le_refl _) (.cells #[.pointer none, .int .i64 (1 + (q : Int)), .slice none 0 0, .slice none 0 0, .slice none 0 0, .slice none 0 0, .slice none 0 0, .slice none 0 0, .slice none 0 0] 65)).trans (b1.mono (by simp))).setCell (p := ⟨w.heap.size, 0, none⟩) (Nat.le_refl _) (.pointer (some ⟨x, 0, none⟩)))
  have hzW : (w1.setCell ⟨w.heap.size, 0, none⟩ (.pointer (some ⟨x, 0, none⟩))).heap.size = w1.heap.size := by simp [World.setCell]
  clear KN KP HW0 rw1 rc0 rf0 ps hF b1
  generalize w1.setCell ⟨w.heap.size, 0, none⟩ (.pointer (some ⟨x, 0, none⟩)) = W at *
  obtain ⟨b, hb⟩ : ∃ b, w.heap.size = b := ⟨_, rfl⟩
  have HB := hid hb
  rw [hb] at BE hBW hsz1 hF2
  rw [hb]
  generalize w1.heap.size = B at *
  clear hb
  go_loopw [10, 11, 12, 13, 14, 15] (fun i _ _ _ _ _ wr => ∃ n : Nat, n ≤ 4 ∧ i = .int .i64 n ∧ (∃ vs, Beg wr b B (.pointer (some ⟨x, 0, none⟩)) (1 + (q : Int)) vs (bN n (2 * n) n 0) (bX (kFl s t) n (2 * n) n 0)) ∧ ChgF (fun k => k = b) W wr) (fun i _ _ _ _ _ _ => 4 - (intOf i).toNat)
  case atStart => exact ⟨0, by omega, rfl, ⟨_, BE.out⟩, ChgF.refl _ _⟩
  case round =>
    obtain ⟨n, hn, rfl, ⟨vs, hE⟩, hC⟩ := hrel
    have q2 : wr.cell? ⟨b, 2, none⟩ = some (vs 0) := World.rowIs.cell hE.row (i := 2) (by omega)
    have hszr := hC.size
    have hbl := hE.lt
    by_cases hlt : n < 4
    · have hid4 := idK_bd hlt
      have hidn := idK_int n
      have hcond : (n : Int) < 4 := by omega
      have hE0 := hid (show wr.ownsRow B 3 1 (vs 0) n (bX (kFl s t) n (2 * n) n 0 0) from hE.own 0 (by omega))
      go_wp2_with (at_builtin; refine wpList_append_own_at _ rfl (.tmp 48) (.tmp 55) 61 rfl B 3 i0 (.int .i64 0) 1 8 Try.underlying61 hi hz0 hz1 hz2 rfl (by decide) _ _ _ rfl (hE0.out.alloc _) ⟨_, 0, none⟩ 1 1 [.int .i64 ((n : Int) * (n : Int) * (n : Int) * 2427)] rfl rfl (cell_one_at (by first | rfl | simp)) (by intro u hu; simp at hu; subst hu; rfl) (by unfold maxLen; omega) (by omega) (by simp; omega) ?_; intro v2 w2 o_w2 g_w2 _ t_w2; have s_w2 := g_w2.size; simp at s_w2; have m_w2 := hid (hE.mid (j := 0) (by omega) g_w2); have k2_w2 := World.rowIs.cell m_w2.out (i := 2) (by omega); have f2_w2 := World.rowIs.frozen m_w2.out 2; have C2 := hid (chg_app (v' := v2) hC hzW.symm (own_base (hE.own 0 (by omega))) g_w2 2); rw [hidn] at o_w2; have E2 := hid ((hE.app (j := 0) (by omega) g_w2 o_w2 t_w2).congr (bN_0 _ _ _ _) (bX_0 (kFl s t) _ _ _ _)); obtain ⟨gp, cp, rfl⟩ := own_frm o_w2 (by omega); clear o_w2 t_w2)
      have E3 := hid (show Beg (w2.setCell ⟨b, 2, none⟩ (.slice (some ⟨gp, 0, none⟩) (n + 1) cp)) b B (.pointer (some ⟨x, 0, none⟩)) (1 + (q : Int)) _ _ _ from E2.out)
      clear E2 hE hC m_w2 k2_w2 f2_w2 g_w2 q2 hE0
      have hz2' : (w2.setCell ⟨b, 2, none⟩ (.slice (some ⟨gp, 0, none⟩) (n + 1) cp)).heap.size = w2.heap.size := by simp [World.setCell]
      generalize w2.setCell ⟨b, 2, none⟩ (.slice (some ⟨gp, 0, none⟩) (n + 1) cp) = w3 at *
      go_loopw [11, 12, 13, 14, 15] (fun j _ _ _ _ wi => ∃ m : Nat, m ≤ 2 ∧ j = .int .i64 m ∧ (∃ vs, Beg wi b B (.pointer (some ⟨x, 0, none⟩)) (1 + (q : Int)) vs (bN (n + 1) (2 * n + m) n 0) (bX (kFl s t) (n + 1) (2 * n + m) n 0)) ∧ ChgF (fun k => k = b) W wi) (fun j _ _ _ _ _ => 2 - (intOf j).toNat)
      case atStart => exact ⟨0, by omega, rfl, ⟨_, E3.out⟩, C2.out⟩
      case round =>
        obtain ⟨m, hm, rfl, ⟨vs, hE⟩, hC⟩ := hrel
        have hszi := hC.size
        obtain ⟨g0, c0, hv0⟩ := own_frm (hE.own 0 (by omega)) (by show 0 < n + 1; omega)
        have hv0' : vs 0 = .slice (some ⟨g0, 0, none⟩) (n + 1) c0 := hv0
        have hO0 : wr.ownsRow B 3 1 (.slice (some ⟨g0, 0, none⟩) (n + 1) c0) (n + 1) (bX (kFl s t) (n + 1) (2 * n + m) n 0 0) := by rw [← hv0']; exact hE.own 0 (by omega)
        have q2 : wr.cell? ⟨b, 2, none⟩ = some (.slice (some ⟨g0, 0, none⟩) (n + 1) c0) := by rw [← hv0']; exact World.rowIs.cell hE.row (i := 2) (by omega)
        have q3 : wr.cell? ⟨b, 3, none⟩ = some (vs 1) := World.rowIs.cell hE.row (i := 3) (by omega)
        have q4 : wr.cell? ⟨g0, n, none⟩ = some (.int .i64 ((idK n : Nat) : Int)) := by
          rw [World.ownsRow.cellAt hO0 n (by omega)]
          exact range_get (fun t => Value.int .i64 ((idK t : Nat) : Int)) _ _ (by omega)
        by_cases hm2 : m < 2
        · have hmc : (m : Int) < 2 := by omega
          have hF := KF0.out (2 * n + m) (by omega)
          rw [show (2 * n + m) / 2 = n from by omega, show (2 * n + m) % 2 = m from by omega] at hF
          have hE1 := hid (show wr.ownsRow B 9 1 (vs 1) (2 * n + m) (bX (kFl s t) (n + 1) (2 * n + m) n 0 1) from hE.own 1 (by omega))
          have h01 : m = 0 ∨ m = 1 := by omega
          rcases h01 with h01 | h01
          · have hq1 : ((m : Int) == 1) = false := beq_eq_false_iff_ne.2 (by omega)
            rw [show kTx s t m = smN s 800 from by unfold kTx; rw [if_neg (by omega)]] at hF
            have hTb := smN_bd s (n := 800) (by omega)
            generalize smN s 800 = T at *
            unfold kK at hF
            have hkb := kK_bd hTb.1
            unfold kK at hkb
            have KP := hid (fun w => pk_any ((T.size : Int) - 1) 12 w (by omega) (by omega) (by omega) (by omega))
            generalize pk ((T.size : Int) - 1) 12 = p at *
            obtain ⟨hF1, hF2', hF3, hF4, hF5⟩ := hF
            have KT := hid (fun w => train_any ((idK n : Nat) : Int) T ((1 + p : Nat) : Int) ((1 + (1 + p) / 3 : Nat) : Int) ((1 + p + 20 * n + 60 : Nat) : Int) w (by unfold maxLen; omega))
            rw [hF1, show ((1 + p : Nat) : Int) = 1 + (p : Int) from by omega, show ((1 + (1 + p) / 3 : Nat) : Int) = 1 + (1 + (p : Int)) / 3 from by omega, show ((1 + p + 20 * n + 60 : Nat) : Int) = 1 + (p : Int) + 20 * (n : Int) + 60 from by omega] at KT
            obtain ⟨G, HG⟩ : ∃ G, kFl s t (2 * n + m) = G := ⟨_, rfl⟩
            rw [HG] at KT hF4 hF5
            have HG := hid HG
            have hlen : decide ((G.size : Int) < 15) = false := by simp; omega
            clear hF1 hF2' hF3 h01
            go_wp2_with (first
              | (go_at_call 8; refine Calls.mono (HS.out _) ?_; rintro e w5 ⟨rfl, kw⟩; rw [kw]; clear kw w5)
              | (go_at_call 7; refine Calls.mono (KP.out _) ?_; rintro e w5 ⟨rfl, kw⟩; rw [kw]; clear kw w5)
              | (go_at_call 20; refine Calls.mono (KT.out _) ?_; rintro e w5 ⟨rfl, b5⟩; have s5 := b5.size; have E5 := hid (hE.below b5); have C5 := hid (chg_bel hC b5); have hE5 := hid (own_below hE1.out b5); have k5 := (World.cell?_of_block (b5.block b (World.rowIs.lt hE.row)) : w5.cell? ⟨b, 3, none⟩ = _).trans q3)
              | (at_builtin; refine wpList_append_own_at _ rfl (.tmp 106) (.tmp 108) 62 rfl B 9 i2 (.string ⟨#[]⟩) 1 16 Try.underlying62 ui uz0 uz1 uz2 rfl (by decide) _ _ _ rfl (hE5.out.alloc _) ⟨_, 0, none⟩ 1 1 [.string G] rfl rfl (cell_one_at (by first | rfl | simp)) (by intro u hu; simp at hu; subst hu; rfl) (by unfold maxLen; omega) (by omega) (by simp; omega) ?_; intro v6 w6 o_w6 g_w6 _ t_w6; have s_w := g_w6.size; simp at s_w; have m_w := hid (E5.out.mid (j := 1) (by omega) g_w6); have k_w := World.rowIs.cell m_w.out (i := 3) (by omega); have f_w := World.rowIs.frozen m_w.out 3; have C6 := hid (chg_app (v' := v6) C5.out hzW.symm (own_base (E5.out.own 1 (by omega))) g_w6 3); rw [← HG.out] at o_w6; have E6 := hid ((E5.out.app (j := 1) (by omega) g_w6 o_w6 t_w6).congr (bN_1 _ _ _ _) (bX_1 (kFl s t) _ _ _ _)); obtain ⟨gp, cp, rfl⟩ := own_frm o_w6 (by omega); clear o_w6 t_w6))
            go_roundw
            case rel =>
              have E7 : Beg (w6.setCell ⟨b, 3, none⟩ (.slice (some ⟨gp, 0, none⟩) (2 * n + m + 1) cp)) b B (.pointer (some ⟨x, 0, none⟩)) (1 + (q : Int)) (up vs 1 (.slice (some ⟨gp, 0, none⟩) (2 * n + m + 1) cp)) (bN (n + 1) (2 * n + (m + 1)) n 0) (bX (kFl s t) (n + 1) (2 * n + (m + 1)) n 0) := E6.out
              refine ⟨m + 1, ?_, ?_, ⟨up vs 1 (.slice (some ⟨gp, 0, none⟩) (2 * n + m + 1) cp), ?_⟩, ?_⟩
              · omega
              · go_num
              · exact E7
              · exact C6.out
            case measure => simp [intOf]; omega
          · have hq1 : ((m : Int) == 1) = true := by rw [beq_iff_eq]; omega
            rw [show kTx s t m = smN t 800 from by unfold kTx; rw [if_pos (by omega)]] at hF
            have hTb := smN_bd t (n := 800) (by omega)
            generalize smN s 800 = T0 at *
            generalize smN t 800 = T at *
            unfold kK at hF
            have hkb := kK_bd hTb.1
            unfold kK at hkb
            have KP := hid (fun w => pk_any ((T.size : Int) - 1) 12 w (by omega) (by omega) (by omega) (by omega))
            generalize pk ((T.size : Int) - 1) 12 = p at *
            obtain ⟨hF1, hF2', hF3, hF4, hF5⟩ := hF
            have KT := hid (fun w => train_any ((idK n : Nat) : Int) T ((1 + p : Nat) : Int) ((1 + (1 + p) / 3 : Nat) : Int) ((1 + p + 20 * n + 60 : Nat) : Int) w (by unfold maxLen; omega))
            rw [hF1, show ((1 + p : Nat) : Int) = 1 + (p : Int) from by omega, show ((1 + (1 + p) / 3 : Nat) : Int) = 1 + (1 + (p : Int)) / 3 from by omega, show ((1 + p + 20 * n + 60 : Nat) : Int) = 1 + (p : Int) + 20 * (n : Int) + 60 from by omega] at KT
            obtain ⟨G, HG⟩ : ∃ G, kFl s t (2 * n + m) = G := ⟨_, rfl⟩
            rw [HG] at KT hF4 hF5
            have HG := hid HG
            have hlen : decide ((G.size : Int) < 15) = false := by simp; omega
            clear hF1 hF2' hF3 h01
            go_wp2_with (first
              | (go_at_call 8; refine Calls.mono (HS.out _) ?_; rintro e w5 ⟨rfl, kw⟩; rw [kw]; clear kw w5)
              | (go_at_call 8; refine Calls.mono (HT.out _) ?_; rintro e w5 ⟨rfl, kw⟩; rw [kw]; clear kw w5)
              | (go_at_call 7; refine Calls.mono (KP.out _) ?_; rintro e w5 ⟨rfl, kw⟩; rw [kw]; clear kw w5)
              | (go_at_call 20; refine Calls.mono (KT.out _) ?_; rintro e w5 ⟨rfl, b5⟩; have s5 := b5.size; have E5 := hid (hE.below b5); have C5 := hid (chg_bel hC b5); have hE5 := hid (own_below hE1.out b5); have k5 := (World.cell?_of_block (b5.block b (World.rowIs.lt hE.row)) : w5.cell? ⟨b, 3, none⟩ = _).trans q3)
              | (at_builtin; refine wpList_append_own_at _ rfl (.tmp 106) (.tmp 108) 62 rfl B 9 i2 (.string ⟨#[]⟩) 1 16 Try.underlying62 ui uz0 uz1 uz2 rfl (by decide) _ _ _ rfl (hE5.out.alloc _) ⟨_, 0, none⟩ 1 1 [.string G] rfl rfl (cell_one_at (by first | rfl | simp)) (by intro u hu; simp at hu; subst hu; rfl) (by unfold maxLen; omega) (by omega) (by simp; omega) ?_; intro v6 w6 o_w6 g_w6 _ t_w6; have s_w := g_w6.size; simp at s_w; have m_w := hid (E5.out.mid (j := 1) (by omega) g_w6); have k_w := World.rowIs.cell m_w.out (i := 3) (by omega); have f_w := World.rowIs.frozen m_w.out 3; have C6 := hid (chg_app (v' := v6) C5.out hzW.symm (own_base (E5.out.own 1 (by omega))) g_w6 3); rw [← HG.out] at o_w6; have E6 := hid ((E5.out.app (j := 1) (by omega) g_w6 o_w6 t_w6).congr (bN_1 _ _ _ _) (bX_1 (kFl s t) _ _ _ _)); obtain ⟨gp, cp, rfl⟩ := own_frm o_w6 (by omega); clear o_w6 t_w6))
            go_roundw
            case rel =>
              have E7 : Beg (w6.setCell ⟨b, 3, none⟩ (.slice (some ⟨gp, 0, none⟩) (2 * n + m + 1) cp)) b B (.pointer (some ⟨x, 0, none⟩)) (1 + (q : Int)) (up vs 1 (.slice (some ⟨gp, 0, none⟩) (2 * n + m + 1) cp)) (bN (n + 1) (2 * n + (m + 1)) n 0) (bX (kFl s t) (n + 1) (2 * n + (m + 1)) n 0) := E6.out
              refine ⟨m + 1, ?_, ?_, ⟨up vs 1 (.slice (some ⟨gp, 0, none⟩) (2 * n + m + 1) cp), ?_⟩, ?_⟩
              · omega
              · go_num
              · exact E7
              · exact C6.out
            case measure => simp [intOf]; omega
        · obtain rfl : m = 2 := by omega
          have hmc : decide (((2 : Nat) : Int) < 2) = false := by simp
          have q5 : wr.cell? ⟨b, 4, none⟩ = some (vs 2) := World.rowIs.cell hE.row (i := 4) (by omega)
          have hE5 := hid (show wr.ownsRow B 9 1 (vs 2) n (bX (kFl s t) (n + 1) (2 * n + 2) n 0 2) from hE.own 2 (by omega))
          clear q2 q3 q4
          go_wp2_with (at_builtin; refine wpList_append_own_at _ rfl (.tmp 116) (.tmp 117) 62 rfl B 9 i2 (.string ⟨#[]⟩) 1 16 Try.underlying62 ui uz0 uz1 uz2 rfl (by decide) _ _ _ rfl (hE5.out.alloc _) ⟨_, 0, none⟩ 1 1 [.string ⟨#[]⟩] rfl rfl (cell_one_at (by first | rfl | simp)) (by intro u hu; simp at hu; subst hu; rfl) (by unfold maxLen; omega) (by omega) (by simp; omega) ?_; intro v6 w6 o_w6 g_w6 _ t_w6; have s_w := g_w6.size; simp at s_w; have m_w := hid (hE.mid (j := 2) (by omega) g_w6); have k_w := World.rowIs.cell m_w.out (i := 4) (by omega); have f_w := World.rowIs.frozen m_w.out 4; have C6 := hid (chg_app (v' := v6) hC hzW.symm (own_base (hE.own 2 (by omega))) g_w6 4); have E6 := hid ((hE.app (j := 2) (by omega) g_w6 o_w6 t_w6).congr (bN_2 _ _ _ _) (bX_2 (kFl s t) _ _ _ _)); obtain ⟨gp, cp, rfl⟩ := own_frm o_w6 (by omega); clear o_w6 t_w6)
          go_roundw
          case rel =>
            have E7 := E6.out
            rw [show 2 * n + 2 = 2 * (n + 1) from by omega] at E7
            first
              | exact ⟨n + 1, by omega, by go_num, ⟨_, E7⟩, C6.out⟩
              | ((repeat apply Exists.intro); exact ⟨⟨n + 1, by omega, by go_num, ⟨_, E7⟩, C6.out⟩, rfl⟩)
          case measure => simp [intOf]; omega
    · obtain rfl : n = 4 := by omega
      have hcond : decide (((4 : Nat) : Int) < 4) = false := by simp
      have HE := hid hE
      clear q2 hE HS HT
      obtain ⟨w9, rfl⟩ : ∃ w9, w9 = wr := ⟨wr, rfl⟩
      go_wp2
      go_loopw [16] (fun i wr => ∃ k : Nat, k ≤ 5 ∧ i = .int .i64 k ∧ (∃ vs, Beg wr b B (.pointer (some ⟨x, 0, none⟩)) (1 + (q : Int)) vs (bN 4 8 4 k) (bX (kFl s t) 4 8 4 k)) ∧ ChgF (fun k => k = b) W wr) (fun i _ => 5 - (intOf i).toNat)
      case atStart => exact ⟨0, by omega, rfl, ⟨_, HE.out⟩, hC⟩
      case round =>
        clear hC
        obtain ⟨k, hk, rfl, ⟨vs, hE⟩, hC⟩ := hrel
        have hszk := hC.size
        have q5 : wr.cell? ⟨b, 5, none⟩ = some (vs 3) := World.rowIs.cell hE.row (i := 5) (by omega)
        have hE3 := hid (show wr.ownsRow B 4 1 (vs 3) k (bX (kFl s t) 4 8 4 k 3) from hE.own 3 (by omega))
        by_cases hk5 : k < 5
        · have hkc : (k : Int) < 5 := by omega
          go_wp2_with (first
            | (at_builtin; refine wpList_append_own_at _ rfl (.tmp 129) (.tmp 130) 63 rfl B 4 i1 (.bool false) 1 1 Try.underlying63 gi gz0 gz1 gz2 rfl (by decide) _ _ _ rfl (hE3.out.alloc _) ⟨_, 0, none⟩ 1 1 [.bool false] rfl rfl (cell_one_at (by first | rfl | simp)) (by intro u hu; simp at hu; subst hu; rfl) (by unfold maxLen; omega) (by omega) (by simp; omega) ?_; intro v21 w21 o_w21 g_w21 _ t_w21; have s_w21 := g_w21.size; simp at s_w21; have m_w21 := hid (hE.mid (j := 3) (by omega) g_w21); have k_w21 := World.rowIs.cell m_w21.out (i := 5) (by omega); have kn21 := World.rowIs.cell m_w21.out (i := 6) (by omega); have f_w21 := World.rowIs.frozen m_w21.out 5; have C21 := hid (chg_app (v' := v21) hC hzW.symm (own_base hE3.out) g_w21 5); have E21 := hid (hE.app (j := 3) (by omega) g_w21 o_w21 t_w21); have hE4 := hid (show (w21.setCell ⟨b, 5, none⟩ v21).ownsRow B 9 1 (vs 4) k (bX (kFl s t) 4 8 4 k 4) from E21.out.own 4 (by omega)); obtain ⟨g21, c21, rfl⟩ := own_frm o_w21 (by omega); clear o_w21 t_w21)
            | (at_builtin; refine wpList_append_own_at _ rfl (.tmp 138) (.tmp 139) 62 rfl B 9 i2 (.string ⟨#[]⟩) 1 16 Try.underlying62 ui uz0 uz1 uz2 rfl (by decide) _ _ _ rfl (hE4.out.alloc _) ⟨_, 0, none⟩ 1 1 [.string ⟨#[]⟩] rfl rfl (cell_one_at (by first | rfl | simp)) (by intro u hu; simp at hu; subst hu; rfl) (by unfold maxLen; omega) (by omega) (by simp; omega) ?_; intro v22 w22 o_w22 g_w22 _ t_w22; have s_w22 := g_w22.size; simp at s_w22; have m_w22 := hid (E21.out.mid (j := 4) (by omega) g_w22); have k_w22 := World.rowIs.cell m_w22.out (i := 6) (by omega); have kn22 := World.rowIs.cell m_w22.out (i := 7) (by omega); have f_w22 := World.rowIs.frozen m_w22.out 6; have C22 := hid (chg_app (v' := v22) C21.out hzW.symm (own_base hE4.out) g_w22 6); have E22 := hid (E21.out.app (j := 4) (by omega) g_w22 o_w22 t_w22); have hE5 := hid (show (w22.setCell ⟨b, 6, none⟩ v22).ownsRow B 3 1 (vs 5) k (bX (kFl s t) 4 8 4 k 5) from E22.out.own 5 (by omega)); obtain ⟨g22, c22, rfl⟩ := own_frm o_w22 (by omega); clear o_w22 t_w22)
            | (at_builtin; refine wpList_append_own_at _ rfl (.tmp 147) (.tmp 148) 61 rfl B 3 i0 (.int .i64 0) 1 8 Try.underlying61 hi hz0 hz1 hz2 rfl (by decide) _ _ _ rfl (hE5.out.alloc _) ⟨_, 0, none⟩ 1 1 [.int .i64 0] rfl rfl (cell_one_at (by first | rfl | simp)) (by intro u hu; simp at hu; subst hu; rfl) (by unfold maxLen; omega) (by omega) (by simp; omega) ?_; intro v23 w23 o_w23 g_w23 _ t_w23; have s_w23 := g_w23.size; simp at s_w23; have m_w23 := hid (E22.out.mid (j := 5) (by omega) g_w23); have k_w23 := World.rowIs.cell m_w23.out (i := 7) (by omega); have kn23 := World.rowIs.cell m_w23.out (i := 8) (by omega); have f_w23 := World.rowIs.frozen m_w23.out 7; have C23 := hid (chg_app (v' := v23) C22.out hzW.symm (own_base hE5.out) g_w23 7); have E23 := hid (E22.out.app (j := 5) (by omega) g_w23 o_w23 t_w23); have hE6 := hid (show (w23.setCell ⟨b, 7, none⟩ v23).ownsRow B 9 1 (vs 6) k (bX (kFl s t) 4 8 4 k 6) from E23.out.own 6 (by omega)); obtain ⟨g23, c23, rfl⟩ := own_frm o_w23 (by omega); clear o_w23 t_w23)
            | (at_builtin; refine wpList_append_own_at _ rfl (.tmp 156) (.tmp 157) 62 rfl B 9 i2 (.string ⟨#[]⟩) 1 16 Try.underlying62 ui uz0 uz1 uz2 rfl (by decide) _ _ _ rfl (hE6.out.alloc _) ⟨_, 0, none⟩ 1 1 [.string ⟨#[]⟩] rfl rfl (cell_one_at (by first | rfl | simp)) (by intro u hu; simp at hu; subst hu; rfl) (by unfold maxLen; omega) (by omega) (by simp; omega) ?_; intro v24 w24 o_w24 g_w24 _ t_w24; have s_w24 := g_w24.size; simp at s_w24; have m_w24 := hid (E23.out.mid (j := 6) (by omega) g_w24); have k_w24 := World.rowIs.cell m_w24.out (i := 8) (by omega); have f_w24 := World.rowIs.frozen m_w24.out 8; have C24 := hid (chg_app (v' := v24) C23.out hzW.symm (own_base hE6.out) g_w24 8); have E24 := hid (E23.out.app (j := 6) (by omega) g_w24 o_w24 t_w24); obtain ⟨g24, c24, rfl⟩ := own_frm o_w24 (by omega); clear o_w24 t_w24))
          go_roundw
          case rel =>
            have E7 := E24.out.congr (n' := bN 4 8 4 (k + 1)) (xs' := bX (kFl s t) 4 8 4 (k + 1)) (seven rfl rfl rfl rfl rfl rfl rfl) (seven rfl rfl rfl (range_app (fun _ => Value.bool false) k) (range_app (fun _ => Value.string ⟨#[]⟩) k) (range_app (fun _ => Value.int .i64 0) k) (range_app (fun _ => Value.string ⟨#[]⟩) k))
            first
              | exact ⟨k + 1, by omega, by go_num, ⟨_, E7⟩, C24.out⟩
              | ((repeat apply Exists.intro); exact ⟨⟨k + 1, by omega, by go_num, ⟨_, E7⟩, C24.out⟩, rfl⟩)
          case measure => simp [intOf]; omega
        · obtain rfl : k = 5 := by omega
          have hkc : decide (((5 : Nat) : Int) < 5) = false := by simp
          clear q5 hE3
          go_wp2
          go_ret
          obtain ⟨g, c, st⟩ := hE.done hzW.symm hC PSW.out hF2.out (fun f hf => by obtain ⟨_, p1, p2, _⟩ := KF0.out f hf; exact ⟨p1, p2⟩)
          have hbw := HB.out
          subst hbw
          exact ⟨w.heap.size, x, 1 + (q : Int), g, c, F, _, _, _, _, _, rfl, st, hBW.out.trans (hC.below (by omega) (fun k e => by omega))⟩
end Go.Proofs.Ytnconbpneimjiaa

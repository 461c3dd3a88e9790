/-
  P5, P6: the walk of the document's slots.
-/
import Derived.Test.YtaofgdgfmdieeaaRefBits
import Derived.Test.YtaofgdgfmdieeaaTabRefTable
namespace Go.Proofs.Ytaofgdgfmdieeaa
open Go.RowKit Go.PlainAid

theorem Try.infoSlot : (Try.prog.info? 74).map (fun i => (i.zero, i.size, i.bytes)) = some (some (.agg #[.int .i64 0, .int .i64 0, .int .i64 0]), 3, 24) := by kernel_rfl
/-- The cells of one slot; of the first s slots. -/
def slotCell (t : ByteArray) (s : Nat) : List Value := [.int .i64 (tOwn t s : Int), .int .i64 (tNum t s : Int), .int .i64 (kOf (tNum t s) : Int)]
def slotCells (t : ByteArray) : Nat → List Value
  | 0 => []
  | s + 1 => slotCells t s ++ slotCell t s
theorem slotCells_len (t : ByteArray) (s : Nat) : (slotCells t s).length = s * 3 := by
  induction s with
  | zero => rfl
  | succ s ih => rw [slotCells, List.length_append, ih]; simp [slotCell]; omega
theorem slotCells_get (t : ByteArray) (s k : Nat) (hk : k < s) (i : Nat) (hi : i < 3) : (slotCells t s)[k * 3 + i]? = (slotCell t k)[i]? := by
  induction s with
  | zero => omega
  | succ s ih =>
    rw [slotCells, List.getElem?_append, slotCells_len]
    rcases Nat.lt_or_ge k s with c | c
    · rw [if_pos (by omega)]; exact ih c
    · obtain rfl : k = s := by omega
      rw [if_neg (by omega), show k * 3 + i - k * 3 = i from by omega]
theorem cell_three_new (w : World) (a b c : Value) (t : TypeId) : ∀ j u, [a, b, c][j]? = some u → (w.alloc (.cells #[a, b, c] t)).cell? ((⟨w.heap.size, 0, none⟩ : Addr).add j) = some u := by
  intro j u hj
  match j, hj with
  | 0, hj => simp at hj; subst hj; simp [Addr.add]
  | 1, hj => simp at hj; subst hj; simp [Addr.add]
  | 2, hj => simp at hj; subst hj; simp [Addr.add]
theorem mget_own (t : ByteArray) (s : Nat) : mget (rowTo t (t.size / 2)) (3 * s % 64) = tOwn t s := rfl
def xRow (a b c : Nat) : Nat → Value := fun i => .int .i64 ((if i = 0 then a else if i = 1 then b else c : Nat) : Int)

theorem xRow_new (w : World) (a b : Nat) : (w.alloc (.cells #[.int .i64 (a : Int), .int .i64 (b : Int), .int .i64 0] 74)).rowIs w.heap.size 74 3 (xRow a b 0) := by
  refine World.rowIs_alloc w #[.int .i64 (a : Int), .int .i64 (b : Int), .int .i64 0] 74 (xRow a b 0) fun i hi => ?_
  match i, hi with
  | 0, _ => simp [xRow]
  | 1, _ => simp [xRow]
  | 2, _ => simp [xRow]
theorem xRow_set {w : World} {g a b c : Nat} (h : w.rowIs g 74 3 (xRow a b c)) {x : Int} (b' : Nat) (e : x = (b' : Int)) : (w.setCell ⟨g, 1, none⟩ (.int .i64 x)).rowIs g 74 3 (xRow a b' c) := by
  subst e
  refine World.rowIs.congr (World.rowIs.set h 1 _) fun i hi => ?_
  match i, hi with
  | 0, _ => simp [xRow]
  | 1, _ => simp [xRow]
  | 2, _ => simp [xRow]
theorem xRow_set2 {w : World} {g a b c : Nat} (h : w.rowIs g 74 3 (xRow a b c)) {x : Int} (c' : Nat) (e : x = (c' : Int)) : (w.setCell ⟨g, 2, none⟩ (.int .i64 x)).rowIs g 74 3 (xRow a b c') := by
  subst e
  refine World.rowIs.congr (World.rowIs.set h 2 _) fun i hi => ?_
  match i, hi with
  | 0, _ => simp [xRow]
  | 1, _ => simp [xRow]
  | 2, _ => simp [xRow]
theorem own_lt {w : World} {base e size : Nat} {v : Value} {n : Nat} {xs : List Value} (h : w.ownsRow base e size v n xs) : ∀ k, v.ownBlock = some k → k < w.heap.size := by
  intro k hk
  rcases h.2 with ⟨rfl, _⟩ | ⟨g, cap, cur, rfl, hg, hgb, _⟩
  · simp [Value.ownBlock] at hk
  · simp [Value.ownBlock] at hk
    subst hk
    exact (Array.getElem?_eq_some_iff.1 hgb).1
/-- What is owned stays owned while what was there is as it was. -/
theorem own_below {w w' : World} {base e size : Nat} {v : Value} {n : Nat} {xs : List Value} (h : w.ownsRow base e size v n xs) (hb : Below w.heap.size w w') : w'.ownsRow base e size v n xs := by
  have hl := own_lt h
  refine ⟨h.1, ?_⟩
  rcases h.2 with h2 | ⟨g, cap, cur, rfl, hg, hgb, r⟩
  · exact .inl h2
  · exact .inr ⟨g, cap, cur, rfl, hg, by rw [hb.block g (hl g rfl)]; exact hgb, r⟩
theorem own_mono {w : World} {base base' e size : Nat} {v : Value} {n : Nat} {xs : List Value} (h : w.ownsRow base e size v n xs) (hb : base' ≤ base) : w.ownsRow base' e size v n xs := by
  refine ⟨h.1, ?_⟩
  rcases h.2 with h2 | ⟨g, cap, cur, rfl, hg, r⟩
  · exact .inl h2
  · exact .inr ⟨g, cap, cur, rfl, by omega, r⟩
/-- The slice of the slots so far, in one form. -/
theorem own_form {t : ByteArray} {w : World} {base s : Nat} {v : Value} (h : w.ownsRow base 74 3 v s (slotCells t s)) : ∃ ao cap, v = .slice ao s cap ∧ ∀ k, k < s → ∃ g, ao = some ⟨g, 0, none⟩ ∧ g < w.heap.size ∧ w.cell? ⟨g, k * 3, none⟩ = some (.int .i64 (tOwn t k : Int)) := by
  have hl := own_lt h
  rcases h.2 with ⟨rfl, rfl⟩ | ⟨g, cap, cur, rfl, hg, hgb, _⟩
  · exact ⟨none, 0, rfl, fun k hk => by omega⟩
  · refine ⟨some ⟨g, 0, none⟩, cap, rfl, fun k hk => ⟨g, rfl, hl g rfl, ?_⟩⟩
    rw [World.ownsRow.cellAt h (k * 3) (by omega)]
    have := slotCells_get t s k hk 0 (by omega)
    rw [Nat.add_zero] at this
    rw [this]; rfl

set_option maxRecDepth 100000 in
set_option maxHeartbeats 1600000 in
theorem slots_any (t : ByteArray) (w : World) (h : isTB t = true) (hnum : ∀ s, s < 64 → 1 ≤ tNum t s ∧ tNum t s < 128) (hshr : ∀ v, tShr t v ≤ 64) :
    Calls Try.prog 43 #[.string t] w fun e w' => ∃ v, e = .returned v ∧ w'.ownsRow w.heap.size 74 3 v 64 (slotCells t 64) ∧ Below w.heap.size w w' := by
  obtain ⟨hev, hgood, htot⟩ := isTB_yes h
  have hlong : t.size ≤ 128 := by
    have := totS_ge hgood
    omega
  obtain ⟨i0, hi, hz0, hz1, hz2⟩ := info_parts Try.infoInt
  obtain ⟨i1, gi, gz0, gz1, gz2⟩ := info_parts Try.infoSlot
  have HTM := hid (fun k (hk : k ≤ t.size / 2) => show totS t k ≤ 64 from htot ▸ totS_mono t hk)
  have HT := hid htot
  have HNM := hid hnum
  have HSH := hid hshr
  have HTB := hid h
  have hb := get_btn t
  clear h hgood htot hnum hshr
  go_enter Try.func43, Try.ntmps43
  go_wp2
  go_loopw [3, 4, 5] (fun v i _ wr => ∃ k : Nat, 2 * k ≤ t.size ∧ i = .int .i64 (2 * (k : Int)) ∧ wr.ownsRow w.heap.size 3 1 v (rowTo t k).length ((rowTo t k).map natV) ∧ Below w.heap.size w wr) (fun _ i _ _ => t.size - (intOf i).toNat)
  case atStart => exact ⟨0, Nat.zero_le _, rfl, World.ownsRow_nil _ _ _ _, Below.refl _ _⟩
  case round =>
    obtain ⟨k, hk, rfl, hown, hbel⟩ := hrel
    have hsz := hbel.size
    by_cases hlt : 2 * k + 1 < t.size
    · have b1 := btn_lt t (2 * k)
      have b2 := btn_lt t (2 * k + 1)
      have HR := hid (show rowTo t (k + 1) = rowTo t k ++ List.replicate (btn t (2 * k + 1)) (btn t (2 * k)) from rfl)
      have hle : (rowTo t k).length + btn t (2 * k + 1) ≤ 64 := by
        have := HTM.out (k + 1) (by omega)
        rw [totS] at this
        rw [rowTo_len]; omega
      have HOW := hid hown
      have HBEL := hid hbel
      clear hown hbel
      have hd : decide (2 * (k : Int) + 1 < (t.size : Int)) = true := by simp; omega
      go_wp2_with fail
      go_loopw [3, 5] (fun v j wi => ∃ (i : Nat) (ps : List Nat), i ≤ btn t (2 * k + 1) ∧ ps = rowTo t k ++ List.replicate i (btn t (2 * k)) ∧ j = .int .i64 i ∧ wi.ownsRow w.heap.size 3 1 v ps.length (ps.map natV) ∧ Below w.heap.size w wi) (fun _ j _ => 256 - (intOf j).toNat)
      case atStart => exact ⟨0, rowTo t k, Nat.zero_le _, by simp, rfl, HOW.out, HBEL.out⟩
      case round =>
        obtain ⟨i, ps, hi2, hps, rfl, hown3, bel3⟩ := hrel
        have hpl : ps.length = (rowTo t k).length + i := by rw [hps]; simp
        have hs3 := bel3.size
        by_cases hj : i < btn t (2 * k + 1)
        · have HPL := hid (show (ps ++ [btn t (2 * k)]).length = ps.length + 1 from by simp)
          have HQ := hid (show ps ++ [btn t (2 * k)] = rowTo t k ++ List.replicate (i + 1) (btn t (2 * k)) from by rw [hps, List.append_assoc, List.replicate_succ'])
          have hp64 : ps.length < 64 := by omega
          clear hps hpl
          go_wp2_with (at_builtin; refine wpList_append_own _ rfl (.tmp 27) (.tmp 32) 53 rfl w.heap.size 3 i0 (.int .i64 0) 1 8 Try.underlying53 hi hz0 hz1 hz2 rfl (by decide) _ _ _ rfl (hown3.alloc _) ⟨_, 0, none⟩ 1 1 [.int .i64 (btn t (2 * k) : Int)] rfl rfl (cell_one_new _ _ _) (by intro u hu; simp at hu; subst hu; rfl) (by unfold maxLen; omega) (by omega) (by simp; omega) ?_; intro v' w4 hown' hgrow _)
          go_roundw
          case rel =>
            have hown4 : w4.ownsRow w.heap.size 3 1 v' (ps ++ [btn t (2 * k)]).length ((ps ++ [btn t (2 * k)]).map natV) := by
              rw [HPL.out]; simpa [natV] using hown'
            have bel4 := (bel3.alloc hs3 _).grown hgrow (by simp; omega) (own_base hown3)
            first
              | exact ⟨i + 1, ps ++ [btn t (2 * k)], by omega, HQ.out, by go_num, hown4, bel4⟩
              | ((repeat apply Exists.intro); exact ⟨⟨i + 1, ps ++ [btn t (2 * k)], by omega, HQ.out, by go_num, hown4, bel4⟩, rfl⟩)
          case measure => simp [intOf]; omega
        · have HI := hid (show i = btn t (2 * k + 1) from by omega)
          have HPR := hid (show ps = rowTo t (k + 1) from by rw [HR.out, hps, HI.out])
          clear hps hpl
          go_wp2
          go_roundw
          case rel =>
            rw [HPR.out] at hown3
            exact ⟨k + 1, by omega, by go_num, hown3, bel3⟩
          case measure => simp [intOf]; omega
    · have HK := hid (show k = t.size / 2 from by omega)
      rw [HK.out] at hown
      have hlen64 : (rowTo t (t.size / 2)).length = 64 := by rw [rowTo_len]; exact HT.out
      rw [hlen64] at hown
      rcases hown.2 with ⟨_, hn0⟩ | ⟨g, cap, cur, hv, hg, hgb, _, _, _, _⟩
      · omega
      · have hgl : g < wr.heap.size := by
          rcases Nat.lt_or_ge g wr.heap.size with h | h
          · exact h
          · rw [Array.getElem?_eq_none h] at hgb; cases hgb
        rw [hv] at hown ⊢
        have HM := hid (mget_cell hown)
        rw [hlen64] at HM
        clear hgb hown hv hg hlen64 hb
        obtain ⟨w2, rfl⟩ : ∃ w2, w2 = wr := ⟨wr, rfl⟩
        go_wp2_with fail
        go_loopw [6, 7, 8, 9, 10] (fun v i _ _ _ ws => ∃ s : Nat, s ≤ 64 ∧ i = .int .i64 s ∧ ws.ownsRow w2.heap.size 74 3 v s (slotCells t s) ∧ Below w2.heap.size w2 ws) (fun _ i _ _ _ _ => 64 - (intOf i).toNat)
        case atStart => exact ⟨0, Nat.zero_le _, rfl, World.ownsRow_nil _ _ _ _, Below.refl _ _⟩
        case round =>
          obtain ⟨s, hs, rfl, hown, hb3⟩ := hrel
          have hs3 := hb3.size
          by_cases hlt : s < 64
          · have hm : 3 * s % 64 < 64 := by omega
            have hcr : wr.cell? ⟨g, 3 * s % 64, none⟩ = some (.int .i64 (tOwn t s : Int)) := (hb3.cell (p := ⟨g, 3 * s % 64, none⟩) hgl).trans (HM.out (3 * s % 64) hm)
            have hv := tOwn_lt t s
            have hq := HSH.out (tOwn t s)
            have hcall := hid (fun w => refShare_any t (tOwn t s) w HTB.out)
            have hd : decide ((s : Int) < 64) = true := by simp; omega
            obtain ⟨w3, rfl⟩ : ∃ w3, w3 = wr := ⟨wr, rfl⟩
            obtain ⟨ao, cap2, hu, hh⟩ := own_form hown
            rw [hu] at hown ⊢
            have HH := hid hh
            clear hh hu
            have HN1 := hid (show tNum t s = tShr t (tOwn t s) + cntO (tOwn t) (tOwn t s) s from rfl)
            have HNB := hid (HNM.out s hlt)
            have HW := hid hown
            have HBL := hid hb3
            clear hown hb3
            go_wp2_with (go_at_call 69; refine Calls.mono (hcall.out _) ?_; rintro e w' ⟨rfl, rfl⟩)
            clear hcr hcall
            generalize hV : tOwn t s = V at *
            generalize tShr t V = Q at *
            have HV := hid hV
            clear hV
            have hx0 := xRow_new w3 V Q
            go_loopw [9] (fun i wi => ∃ k : Nat, k ≤ s ∧ i = .int .i64 k ∧ wi.rowIs w3.heap.size 74 3 (xRow V (Q + cntO (tOwn t) V k) 0) ∧ Below w3.heap.size w3 wi) (fun i _ => s - (intOf i).toNat)
            case atStart => exact ⟨0, Nat.zero_le _, rfl, hx0, (Below.refl _ _).alloc (Nat.le_refl _) _⟩
            case round =>
              obtain ⟨k, hk, rfl, hx, hb4⟩ := hrel
              have c0 : wr.cell? ⟨w3.heap.size, 0, none⟩ = some (.int .i64 (V : Int)) := World.rowIs.cell hx (i := 0) (by omega)
              have c1 : wr.cell? ⟨w3.heap.size, 1, none⟩ = some (.int .i64 ((Q + cntO (tOwn t) V k : Nat) : Int)) := World.rowIs.cell hx (i := 1) (by omega)
              have f1 := World.rowIs.frozen hx 1
              have hcl := cntO_le (tOwn t) V k
              have HCN := hid (show cntO (tOwn t) V (k + 1) = cntO (tOwn t) V k + if tOwn t k = V then 1 else 0 from rfl)
              by_cases hks : k < s
              · obtain ⟨g2, rfl, hg2, hc2⟩ := HH.out k hks
                have cl : wr.cell? ⟨g2, k * 3, none⟩ = some (.int .i64 (tOwn t k : Int)) := (hb4.cell (p := ⟨g2, k * 3, none⟩) hg2).trans hc2
                have cl' : wr.cell? ⟨g2, 3 * k, none⟩ = some (.int .i64 (tOwn t k : Int)) := by rw [Nat.mul_comm]; exact cl
                generalize hcn : cntO (tOwn t) V k = cn at *
                clear hcn
                by_cases ce : tOwn t k = V
                · have ce' : ((tOwn t k : Int) == (V : Int)) = true := by simp [ce]
                  have HCE := hid ce
                  clear ce
                  go_wp2_with fail
                  go_quiet (fail)
                  go_wp2
                  go_roundw
                  case rel =>
                    refine ⟨k + 1, by omega, by go_num, ?_, ?_⟩
                    · rw [HCN.out, if_pos HCE.out]
                      exact xRow_set (w := wr.drewN nq) hx _ (by omega)
                    · exact (Below.drewN hb4 _).setCell (Nat.le_refl _) _
                  case measure => simp [intOf]; omega
                · have ce' : ((tOwn t k : Int) == (V : Int)) = false := by simp; omega
                  have HCE := hid ce
                  clear ce
                  go_wp2_with fail
                  go_quiet (fail)
                  go_wp2
                  go_roundw
                  case rel =>
                    refine ⟨k + 1, by omega, by go_num, ?_, Below.drewN hb4 _⟩
                    rw [HCN.out, if_neg HCE.out]
                    exact hx
                  case measure => simp [intOf]; omega
              · have HKS := hid (show k = s from by omega)
                rw [HKS.out, ← HN1.out] at hx
                rw [HKS.out, ← HN1.out] at c1
                clear HN1 hcl HCN
                have hnb := HNB.out
                generalize hN : tNum t s = N at *
                have HN := hid hN
                clear hN
                obtain ⟨w5, rfl⟩ : ∃ w5, w5 = wr := ⟨wr, rfl⟩
                go_wp2_with fail
                go_loopw [10] (fun n wi => ∃ (j q f : Nat), 1 ≤ q ∧ q < 128 ∧ f + j = 7 ∧ 64 ≤ q * 2 ^ f ∧ kOf N = kF f q + j ∧ n = .int .i64 q ∧ wi.rowIs w3.heap.size 74 3 (xRow V N j) ∧ Below w3.heap.size w3 wi) (fun n _ => 128 - (intOf n).toNat)
                case atStart => exact ⟨0, N, 7, by omega, by omega, rfl, by omega, rfl, rfl, hx, hb4⟩
                case round =>
                  obtain ⟨j, q, f, hq1, hq2, hfj, hqf, hko, rfl, hx2, hb5⟩ := hrel
                  have HKO := hid hko
                  have HQF := hid hqf
                  clear hko hqf
                  have d0 : wr.cell? ⟨w3.heap.size, 0, none⟩ = some (.int .i64 (V : Int)) := World.rowIs.cell hx2 (i := 0) (by omega)
                  have d1 : wr.cell? ⟨w3.heap.size, 1, none⟩ = some (.int .i64 (N : Int)) := World.rowIs.cell hx2 (i := 1) (by omega)
                  have d2 : wr.cell? ⟨w3.heap.size, 2, none⟩ = some (.int .i64 (j : Int)) := World.rowIs.cell hx2 (i := 2) (by omega)
                  have f2 := World.rowIs.frozen hx2 2
                  by_cases hq : q < 64
                  · go_wp2
                    go_roundw
                    case rel =>
                      cases f with
                      | zero => have := HQF.out; omega
                      | succ f =>
                        refine ⟨j + 1, 2 * q, f, by omega, by omega, by omega, ?_, ?_, by go_num, ?_, hb5.setCell (Nat.le_refl _) _⟩
                        · have := HQF.out; rw [Nat.pow_succ] at this; rw [Nat.mul_comm 2 q, Nat.mul_assoc, Nat.mul_comm 2]; exact this
                        · rw [HKO.out, kF_small hq]; omega
                        · exact xRow_set2 hx2 _ (by omega)
                    case measure => simp [intOf]; omega
                  · have HJ := hid (show j = kOf N from by rw [HKO.out, kF_big (by omega)]; omega)
                    have hb6 := HBL.out
                    have hown6 : wr.ownsRow w2.heap.size 74 3 (.slice ao s cap2) s (slotCells t s) := own_below HW.out hb5
                    have hs5 := hb5.size
                    go_wp2_with (at_builtin; refine wpList_append_own _ rfl (.tmp 77) (.tmp 79) 67 rfl w2.heap.size 74 i1 (.agg #[.int .i64 0, .int .i64 0, .int .i64 0]) 3 24 Try.underlying67 gi gz0 gz1 gz2 rfl (by decide) _ _ _ rfl (hown6.alloc _) ⟨_, 0, none⟩ 1 1 [.int .i64 (V : Int), .int .i64 (N : Int), .int .i64 (j : Int)] rfl rfl (cell_three_new _ _ _ _ _) (by intro u hu; simp at hu; rcases hu with rfl | rfl | rfl <;> rfl) (by unfold maxLen; omega) (by omega) (by simp; omega) ?_; intro v' w7 hown' hgrow _)
                    go_roundw
                    case rel =>
                      have hown8 : w7.ownsRow w2.heap.size 74 3 v' (s + 1) (slotCells t (s + 1)) := by
                        rw [slotCells, slotCell, HV.out, HN.out, ← HJ.out]; exact hown'
                      have bel8 : Below w2.heap.size w2 w7 := ((hb6.trans (hb5.mono (by omega))).alloc (by omega) _).grown hgrow (by simp; omega) (own_base hown6)
                      first
                        | exact ⟨s + 1, by omega, by go_num, hown8, bel8⟩
                        | ((repeat apply Exists.intro); exact ⟨⟨s + 1, by omega, by go_num, hown8, bel8⟩, rfl⟩)
                    case measure => simp [intOf]; omega
          · have HS64 := hid (show s = 64 from by omega)
            rw [HS64.out] at hown
            go_wp2
            go_ret
            exact ⟨_, rfl, own_mono hown (by omega), hbel.trans (hb3.mono (by omega))⟩
end Go.Proofs.Ytaofgdgfmdieeaa

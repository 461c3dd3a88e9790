/-
  P5, P6: the walks of the document's share, digits, value.
  P5, P6: the walk of the document's slots.
  P5, P6: the walks of the document's found, value.
  P5, P6: the walk of the document's written.
  P5: the walk of the document's Squeeze.
-/
import Derived.Test.YtnconbpneimjiaaGreatOwnBel
import Derived.Test.YtnconbpneimjiaaGreatStrTab
import Derived.Test.YtnconbpneimjiaaGreatTabRefTable
import Derived.Test.YtnconbpneimjiaaGreatPlain
import Derived.Deep.RegionHeld3
import Derived.Test.YtnconbpneimjiaaGreatSqzWalk
namespace Go.Proofs.YtnconbpneimjiaaGreat
open Go.RowKit Go.PlainAid

/-! ### P5, P6: the walks of the document's share, digits, value. -/
set_option maxRecDepth 100000 in
set_option maxHeartbeats 400000 in
theorem refShare_any (t : ByteArray) (v : Nat) (w : World) (h : isTB t = true) :
    Calls Tryz.prog 106 #[.string t, .int .i64 v] w fun e w' => e = .returned (.int .i64 (tShr t v : Int)) ∧ w' = w := by
  obtain ⟨hev, hgood, htot⟩ := isTB_yes h
  have hlong : t.size ≤ 128 := by
    have := totS_ge hgood
    omega
  have hb := get_btn t
  have HG := hid hgood
  clear h hgood htot
  go_enter Tryz.func106, Tryz.ntmps106
  go_wp2
  go_loop [5] (fun i => ∃ k : Nat, 2 * k ≤ t.size ∧ i = .int .i64 (2 * (k : Int)) ∧ ∀ j, j < k → btn t (2 * j) ≠ v) (fun i => t.size - (intOf i).toNat)
  case atStart => exact ⟨0, Nat.zero_le _, rfl, fun j hj => by omega⟩
  case round =>
    obtain ⟨k, hk, rfl, hno⟩ := hrel
    have HN := hid hno
    clear hno
    have b1 := btn_lt t (2 * k)
    have b2 := btn_lt t (2 * k + 1)
    by_cases hlt : 2 * k + 1 < t.size
    · by_cases c : btn t (2 * k) = v
      · have c' : ((btn t (2 * k) : Int) == (v : Int)) = true := by simp [c]
        have HS := hid (show tShr t v = btn t (2 * k + 1) from by rw [← c]; exact shTab_hit HG.out (by omega))
        clear c
        go_wp2
        go_ret
        exact ⟨ret_int' (by rw [HS.out]), rfl⟩
      · have c' : ((btn t (2 * k) : Int) == (v : Int)) = false := by simp; omega
        have HC := hid c
        clear c
        go_wp2
        go_round
        case rel => exact ⟨k + 1, by omega, by go_num, fun j hj => by
          rcases Nat.lt_or_ge j k with d | d
          · exact HN.out j d
          · obtain rfl : j = k := by omega
            exact HC.out⟩
        case measure => simp [intOf]; omega
    · have HS := hid (show tShr t v = 0 from shTab_none (fun j hj => HN.out j (by omega)))
      go_wp2
      go_ret
      exact ⟨ret_int' (by rw [HS.out]; rfl), rfl⟩

theorem conv_one (w : World) (x : Int) : (convert 114 9 (.slice (some ⟨w.heap.size, 0, none⟩) 1 1)).run Tryz.prog (w.alloc (.cells #[.int .u8 x] 5)) = .ok (.string (strOfNums [x])) (w.alloc (.cells #[.int .u8 x] 5)) := by
  refine run_convert_bytes_arg _ 114 5 Tryz.underlying114 Tryz.underlying5 w.heap.size 0 1 1 [x] rfl (fun i hi => ?_) 9 Tryz.underlying9
  obtain rfl : i = 0 := by omega
  simp

set_option maxRecDepth 100000 in
set_option maxHeartbeats 400000 in
theorem digits_any (n k : Nat) (w : World) (hn : n < 4096) (hk : k ≤ 64) :
    Calls Tryz.prog 79 #[.int .i64 n, .int .i64 k] w fun e w' => e = .returned (.string (strOfNums (sgn (digB n k)))) ∧ Below w.heap.size w w' := by
  have hcv := conv_one
  go_enter Tryz.func79, Tryz.ntmps79
  go_wp2
  go_loopw [0, 5, 6] (fun m s i wr => ∃ j q : Nat, j ≤ k ∧ q < 4096 ∧ q = n / 2 ^ j ∧ m = .int .i64 q ∧ s = .string (strOfNums (sgn (digB n j))) ∧ i = .int .i64 j ∧ Below w.heap.size w wr) (fun _ _ i _ => k - (intOf i).toNat)
  case atStart => exact ⟨0, n, Nat.zero_le _, hn, by simp, rfl, rfl, rfl, Below.refl _ _⟩
  case round =>
    obtain ⟨j, q, hj, hq, hqn, rfl, rfl, rfl, hbel⟩ := hrel
    have HQ := hid hqn
    clear hqn
    have hsz := hbel.size
    have HL := hid (digB_len n j)
    by_cases hlt : j < k
    · have HD := hid (show digB n (j + 1) = n / 2 ^ j % 2 :: digB n j from rfl)
      have hlen : (strOfNums (sgn (digB n j))).size = j := by rw [strOfNums_size, sgn_len, digB_len]
      generalize digB n j = ds at *
      have hone : ∀ x, (strOfNums [x]).size = 1 := fun x => by rw [strOfNums_size]; rfl
      go_wp2
      go_roundw
      case rel =>
        refine ⟨j + 1, q / 2, by omega, by omega, by rw [HQ.out, Nat.pow_succ, Nat.div_div_eq_div_mul], by go_num, ?_, by go_num, hbel.alloc hsz _⟩
        rw [str_append, HD.out, ← HQ.out]
        simp [sgn]
      case measure => simp [intOf]; omega
    · have HJ := hid (show j = k from by omega)
      go_wp2
      go_ret
      exact ⟨congrArg (fun z => Ending.returned (.string (strOfNums (sgn (digB n z))))) HJ.out, hbel⟩

/-! ### P5, P6: the walk of the document's slots. -/
theorem Tryz.infoSlot : (Tryz.prog.info? 131).map (fun i => (i.zero, i.size, i.bytes)) = some (some (.agg #[.int .i64 0, .int .i64 0, .int .i64 0]), 3, 24) := by kernel_rfl
/-- The cells of one slot; of the first s slots. -/
def slotCell (t : ByteArray) (s : Nat) : List Value := [.int .i64 (tOwn t s : Int), .int .i64 (tNum t s : Int), .int .i64 (kOf (tNum t s) : Int)]
def slotCells (t : ByteArray) : Nat → List Value
  | 0 => []
  | s + 1 => slotCells t s ++ slotCell t s
theorem slotCells_len (t : ByteArray) (s : Nat) : (slotCells t s).length = s * 3 := by
  induction s with
  | zero => rfl
  | succ s ih => rw [slotCells, List.length_append, ih]; simp [slotCell]; omega
theorem slotCells_get (t : ByteArray) (s k : Nat) (hk : k < s) (i : Nat) (hi : i < 3) : (slotCells t s)[k * 3 + i]? = (slotCell t k)[i]? := by
  induction s with
  | zero => omega
  | succ s ih =>
    rw [slotCells, List.getElem?_append, slotCells_len]
    rcases Nat.lt_or_ge k s with c | c
    · rw [if_pos (by omega)]; exact ih c
    · obtain rfl : k = s := by omega
      rw [if_neg (by omega), show k * 3 + i - k * 3 = i from by omega]
theorem cell_three_new (w : World) (a b c : Value) (t : TypeId) : ∀ j u, [a, b, c][j]? = some u → (w.alloc (.cells #[a, b, c] t)).cell? ((⟨w.heap.size, 0, none⟩ : Addr).add j) = some u := by
  intro j u hj
  match j, hj with
  | 0, hj => simp at hj; subst hj; simp [Addr.add]
  | 1, hj => simp at hj; subst hj; simp [Addr.add]
  | 2, hj => simp at hj; subst hj; simp [Addr.add]
theorem mget_own (t : ByteArray) (s : Nat) : mget (rowTo t (t.size / 2)) (3 * s % 64) = tOwn t s := rfl
def xRow (a b c : Nat) : Nat → Value := fun i => .int .i64 ((if i = 0 then a else if i = 1 then b else c : Nat) : Int)

theorem xRow_new (w : World) (a b : Nat) : (w.alloc (.cells #[.int .i64 (a : Int), .int .i64 (b : Int), .int .i64 0] 131)).rowIs w.heap.size 131 3 (xRow a b 0) := by
  refine World.rowIs_alloc w #[.int .i64 (a : Int), .int .i64 (b : Int), .int .i64 0] 131 (xRow a b 0) fun i hi => ?_
  match i, hi with
  | 0, _ => simp [xRow]
  | 1, _ => simp [xRow]
  | 2, _ => simp [xRow]
theorem xRow_set {w : World} {g a b c : Nat} (h : w.rowIs g 131 3 (xRow a b c)) {x : Int} (b' : Nat) (e : x = (b' : Int)) : (w.setCell ⟨g, 1, none⟩ (.int .i64 x)).rowIs g 131 3 (xRow a b' c) := by
  subst e
  refine World.rowIs.congr (World.rowIs.set h 1 _) fun i hi => ?_
  match i, hi with
  | 0, _ => simp [xRow]
  | 1, _ => simp [xRow]
  | 2, _ => simp [xRow]
theorem xRow_set2 {w : World} {g a b c : Nat} (h : w.rowIs g 131 3 (xRow a b c)) {x : Int} (c' : Nat) (e : x = (c' : Int)) : (w.setCell ⟨g, 2, none⟩ (.int .i64 x)).rowIs g 131 3 (xRow a b c') := by
  subst e
  refine World.rowIs.congr (World.rowIs.set h 2 _) fun i hi => ?_
  match i, hi with
  | 0, _ => simp [xRow]
  | 1, _ => simp [xRow]
  | 2, _ => simp [xRow]
/-- The slice of the slots so far, in one form. -/
theorem own_form {t : ByteArray} {w : World} {base s : Nat} {v : Value} (h : w.ownsRow base 131 3 v s (slotCells t s)) : ∃ ao cap, v = .slice ao s cap ∧ ∀ k, k < s → ∃ g, ao = some ⟨g, 0, none⟩ ∧ g < w.heap.size ∧ w.cell? ⟨g, k * 3, none⟩ = some (.int .i64 (tOwn t k : Int)) := by
  have hl := own_lt h
  rcases h.2 with ⟨rfl, rfl⟩ | ⟨g, cap, cur, rfl, hg, hgb, _⟩
  · exact ⟨none, 0, rfl, fun k hk => by omega⟩
  · refine ⟨some ⟨g, 0, none⟩, cap, rfl, fun k hk => ⟨g, rfl, hl g rfl, ?_⟩⟩
    rw [World.ownsRow.cellAt h (k * 3) (by omega)]
    have := slotCells_get t s k hk 0 (by omega)
    rw [Nat.add_zero] at this
    rw [this]; rfl

set_option maxRecDepth 100000 in
set_option maxHeartbeats 1600000 in
theorem slots_any (t : ByteArray) (w : World) (h : isTB t = true) (hnum : ∀ s, s < 64 → 1 ≤ tNum t s ∧ tNum t s < 128) (hshr : ∀ v, tShr t v ≤ 64) :
    Calls Tryz.prog 75 #[.string t] w fun e w' => ∃ v, e = .returned v ∧ w'.ownsRow w.heap.size 131 3 v 64 (slotCells t 64) ∧ Below w.heap.size w w' := by
  obtain ⟨hev, hgood, htot⟩ := isTB_yes h
  have hlong : t.size ≤ 128 := by
    have := totS_ge hgood
    omega
  obtain ⟨i0, hi, hz0, hz1, hz2⟩ := info_parts Tryz.infoInt
  obtain ⟨i1, gi, gz0, gz1, gz2⟩ := info_parts Tryz.infoSlot
  have HTM := hid (fun k (hk : k ≤ t.size / 2) => show totS t k ≤ 64 from htot ▸ totS_mono t hk)
  have HT := hid htot
  have HNM := hid hnum
  have HSH := hid hshr
  have HTB := hid h
  have hb := get_btn t
  clear h hgood htot hnum hshr
  go_enter Tryz.func75, Tryz.ntmps75
  go_wp2
  go_loopw [3, 4, 5] (fun v i _ wr => ∃ k : Nat, 2 * k ≤ t.size ∧ i = .int .i64 (2 * (k : Int)) ∧ wr.ownsRow w.heap.size 3 1 v (rowTo t k).length ((rowTo t k).map natV) ∧ Below w.heap.size w wr) (fun _ i _ _ => t.size - (intOf i).toNat)
  case atStart => exact ⟨0, Nat.zero_le _, rfl, World.ownsRow_nil _ _ _ _, Below.refl _ _⟩
  case round =>
    obtain ⟨k, hk, rfl, hown, hbel⟩ := hrel
    have hsz := hbel.size
    by_cases hlt : 2 * k + 1 < t.size
    · have b1 := btn_lt t (2 * k)
      have b2 := btn_lt t (2 * k + 1)
      have HR := hid (show rowTo t (k + 1) = rowTo t k ++ List.replicate (btn t (2 * k + 1)) (btn t (2 * k)) from rfl)
      have hle : (rowTo t k).length + btn t (2 * k + 1) ≤ 64 := by
        have := HTM.out (k + 1) (by omega)
        rw [totS] at this
        rw [rowTo_len]; omega
      have HOW := hid hown
      have HBEL := hid hbel
      clear hown hbel
      have hd : decide (2 * (k : Int) + 1 < (t.size : Int)) = true := by simp; omega
      go_wp2_with fail
      go_loopw [3, 5] (fun v j wi => ∃ (i : Nat) (ps : List Nat), i ≤ btn t (2 * k + 1) ∧ ps = rowTo t k ++ List.replicate i (btn t (2 * k)) ∧ j = .int .i64 i ∧ wi.ownsRow w.heap.size 3 1 v ps.length (ps.map natV) ∧ Below w.heap.size w wi) (fun _ j _ => 256 - (intOf j).toNat)
      case atStart => exact ⟨0, rowTo t k, Nat.zero_le _, by simp, rfl, HOW.out, HBEL.out⟩
      case round =>
        obtain ⟨i, ps, hi2, hps, rfl, hown3, bel3⟩ := hrel
        have hpl : ps.length = (rowTo t k).length + i := by rw [hps]; simp
        have hs3 := bel3.size
        by_cases hj : i < btn t (2 * k + 1)
        · have HPL := hid (show (ps ++ [btn t (2 * k)]).length = ps.length + 1 from by simp)
          have HQ := hid (show ps ++ [btn t (2 * k)] = rowTo t k ++ List.replicate (i + 1) (btn t (2 * k)) from by rw [hps, List.append_assoc, List.replicate_succ'])
          have hp64 : ps.length < 64 := by omega
          clear hps hpl
          go_wp2_with (at_builtin; refine wpList_append_own _ rfl (.tmp 27) (.tmp 32) 111 rfl w.heap.size 3 i0 (.int .i64 0) 1 8 Tryz.underlying111 hi hz0 hz1 hz2 rfl (by decide) _ _ _ rfl (hown3.alloc _) ⟨_, 0, none⟩ 1 1 [.int .i64 (btn t (2 * k) : Int)] rfl rfl (cell_one_new _ _ _) (by intro u hu; simp at hu; subst hu; rfl) (by unfold maxLen; omega) (by omega) (by simp; omega) ?_; intro v' w4 hown' hgrow _)
          go_roundw
          case rel =>
            have hown4 : w4.ownsRow w.heap.size 3 1 v' (ps ++ [btn t (2 * k)]).length ((ps ++ [btn t (2 * k)]).map natV) := by
              rw [HPL.out]; simpa [natV] using hown'
            have bel4 := (bel3.alloc hs3 _).grown hgrow (by simp; omega) (own_base hown3)
            first
              | exact ⟨i + 1, ps ++ [btn t (2 * k)], by omega, HQ.out, by go_num, hown4, bel4⟩
              | ((repeat apply Exists.intro); exact ⟨⟨i + 1, ps ++ [btn t (2 * k)], by omega, HQ.out, by go_num, hown4, bel4⟩, rfl⟩)
          case measure => simp [intOf]; omega
        · have HI := hid (show i = btn t (2 * k + 1) from by omega)
          have HPR := hid (show ps = rowTo t (k + 1) from by rw [HR.out, hps, HI.out])
          clear hps hpl
          go_wp2
          go_roundw
          case rel =>
            rw [HPR.out] at hown3
            exact ⟨k + 1, by omega, by go_num, hown3, bel3⟩
          case measure => simp [intOf]; omega
    · have HK := hid (show k = t.size / 2 from by omega)
      rw [HK.out] at hown
      have hlen64 : (rowTo t (t.size / 2)).length = 64 := by rw [rowTo_len]; exact HT.out
      rw [hlen64] at hown
      rcases hown.2 with ⟨_, hn0⟩ | ⟨g, cap, cur, hv, hg, hgb, _, _, _, _⟩
      · omega
      · have hgl : g < wr.heap.size := by
          rcases Nat.lt_or_ge g wr.heap.size with h | h
          · exact h
          · rw [Array.getElem?_eq_none h] at hgb; cases hgb
        rw [hv] at hown ⊢
        have HM := hid (mget_cell hown)
        rw [hlen64] at HM
        clear hgb hown hv hg hlen64 hb
        obtain ⟨w2, rfl⟩ : ∃ w2, w2 = wr := ⟨wr, rfl⟩
        go_wp2_with fail
        go_loopw [6, 7, 8, 9, 10] (fun v i _ _ _ ws => ∃ s : Nat, s ≤ 64 ∧ i = .int .i64 s ∧ ws.ownsRow w2.heap.size 131 3 v s (slotCells t s) ∧ Below w2.heap.size w2 ws) (fun _ i _ _ _ _ => 64 - (intOf i).toNat)
        case atStart => exact ⟨0, Nat.zero_le _, rfl, World.ownsRow_nil _ _ _ _, Below.refl _ _⟩
        case round =>
          obtain ⟨s, hs, rfl, hown, hb3⟩ := hrel
          have hs3 := hb3.size
          by_cases hlt : s < 64
          · have hm : 3 * s % 64 < 64 := by omega
            have hcr : wr.cell? ⟨g, 3 * s % 64, none⟩ = some (.int .i64 (tOwn t s : Int)) := (hb3.cell (p := ⟨g, 3 * s % 64, none⟩) hgl).trans (HM.out (3 * s % 64) hm)
            have hv := tOwn_lt t s
            have hq := HSH.out (tOwn t s)
            have hcall := hid (fun w => refShare_any t (tOwn t s) w HTB.out)
            have hd : decide ((s : Int) < 64) = true := by simp; omega
            obtain ⟨w3, rfl⟩ : ∃ w3, w3 = wr := ⟨wr, rfl⟩
            obtain ⟨ao, cap2, hu, hh⟩ := own_form hown
            rw [hu] at hown ⊢
            have HH := hid hh
            clear hh hu
            have HN1 := hid (show tNum t s = tShr t (tOwn t s) + cntO (tOwn t) (tOwn t s) s from rfl)
            have HNB := hid (HNM.out s hlt)
            have HW := hid hown
            have HBL := hid hb3
            clear hown hb3
            go_wp2_with (go_at_call 106; refine Calls.mono (hcall.out _) ?_; rintro e w' ⟨rfl, rfl⟩)
            clear hcr hcall
            generalize hV : tOwn t s = V at *
            generalize tShr t V = Q at *
            have HV := hid hV
            clear hV
            have hx0 := xRow_new w3 V Q
            go_loopw [9] (fun i wi => ∃ k : Nat, k ≤ s ∧ i = .int .i64 k ∧ wi.rowIs w3.heap.size 131 3 (xRow V (Q + cntO (tOwn t) V k) 0) ∧ Below w3.heap.size w3 wi) (fun i _ => s - (intOf i).toNat)
            case atStart => exact ⟨0, Nat.zero_le _, rfl, hx0, (Below.refl _ _).alloc (Nat.le_refl _) _⟩
            case round =>
              obtain ⟨k, hk, rfl, hx, hb4⟩ := hrel
              have c0 : wr.cell? ⟨w3.heap.size, 0, none⟩ = some (.int .i64 (V : Int)) := World.rowIs.cell hx (i := 0) (by omega)
              have c1 : wr.cell? ⟨w3.heap.size, 1, none⟩ = some (.int .i64 ((Q + cntO (tOwn t) V k : Nat) : Int)) := World.rowIs.cell hx (i := 1) (by omega)
              have f1 := World.rowIs.frozen hx 1
              have hcl := cntO_le (tOwn t) V k
              have HCN := hid (show cntO (tOwn t) V (k + 1) = cntO (tOwn t) V k + if tOwn t k = V then 1 else 0 from rfl)
              by_cases hks : k < s
              · obtain ⟨g2, rfl, hg2, hc2⟩ := HH.out k hks
                have cl : wr.cell? ⟨g2, k * 3, none⟩ = some (.int .i64 (tOwn t k : Int)) := (hb4.cell (p := ⟨g2, k * 3, none⟩) hg2).trans hc2
                have cl' : wr.cell? ⟨g2, 3 * k, none⟩ = some (.int .i64 (tOwn t k : Int)) := by rw [Nat.mul_comm]; exact cl
                generalize hcn : cntO (tOwn t) V k = cn at *
                clear hcn
                by_cases ce : tOwn t k = V
                · have ce' : ((tOwn t k : Int) == (V : Int)) = true := by simp [ce]
                  have HCE := hid ce
                  clear ce
                  go_wp2_with fail
                  go_quiet (fail)
                  go_wp2
                  go_roundw
                  case rel =>
                    refine ⟨k + 1, by omega, by go_num, ?_, ?_⟩
                    · rw [HCN.out, if_pos HCE.out]
                      exact xRow_set (w := wr.drewN nq) hx _ (by omega)
                    · exact (Below.drewN hb4 _).setCell (Nat.le_refl _) _
                  case measure => simp [intOf]; omega
                · have ce' : ((tOwn t k : Int) == (V : Int)) = false := by simp; omega
                  have HCE := hid ce
                  clear ce
                  go_wp2_with fail
                  go_quiet (fail)
                  go_wp2
                  go_roundw
                  case rel =>
                    refine ⟨k + 1, by omega, by go_num, ?_, Below.drewN hb4 _⟩
                    rw [HCN.out, if_neg HCE.out]
                    exact hx
                  case measure => simp [intOf]; omega
              · have HKS := hid (show k = s from by omega)
                rw [HKS.out, ← HN1.out] at hx
                rw [HKS.out, ← HN1.out] at c1
                clear HN1 hcl HCN
                have hnb := HNB.out
                generalize hN : tNum t s = N at *
                have HN := hid hN
                clear hN
                obtain ⟨w5, rfl⟩ : ∃ w5, w5 = wr := ⟨wr, rfl⟩
                go_wp2_with fail
                go_loopw [10] (fun n wi => ∃ (j q f : Nat), 1 ≤ q ∧ q < 128 ∧ f + j = 7 ∧ 64 ≤ q * 2 ^ f ∧ kOf N = kF f q + j ∧ n = .int .i64 q ∧ wi.rowIs w3.heap.size 131 3 (xRow V N j) ∧ Below w3.heap.size w3 wi) (fun n _ => 128 - (intOf n).toNat)
                case atStart => exact ⟨0, N, 7, by omega, by omega, rfl, by omega, rfl, rfl, hx, hb4⟩
                case round =>
                  obtain ⟨j, q, f, hq1, hq2, hfj, hqf, hko, rfl, hx2, hb5⟩ := hrel
                  have HKO := hid hko
                  have HQF := hid hqf
                  clear hko hqf
                  have d0 : wr.cell? ⟨w3.heap.size, 0, none⟩ = some (.int .i64 (V : Int)) := World.rowIs.cell hx2 (i := 0) (by omega)
                  have d1 : wr.cell? ⟨w3.heap.size, 1, none⟩ = some (.int .i64 (N : Int)) := World.rowIs.cell hx2 (i := 1) (by omega)
                  have d2 : wr.cell? ⟨w3.heap.size, 2, none⟩ = some (.int .i64 (j : Int)) := World.rowIs.cell hx2 (i := 2) (by omega)
                  have f2 := World.rowIs.frozen hx2 2
                  by_cases hq : q < 64
                  · go_wp2
                    go_roundw
                    case rel =>
                      cases f with
                      | zero => have := HQF.out; omega
                      | succ f =>
                        refine ⟨j + 1, 2 * q, f, by omega, by omega, by omega, ?_, ?_, by go_num, ?_, hb5.setCell (Nat.le_refl _) _⟩
                        · have := HQF.out; rw [Nat.pow_succ] at this; rw [Nat.mul_comm 2 q, Nat.mul_assoc, Nat.mul_comm 2]; exact this
                        · rw [HKO.out, kF_small hq]; omega
                        · exact xRow_set2 hx2 _ (by omega)
                    case measure => simp [intOf]; omega
                  · have HJ := hid (show j = kOf N from by rw [HKO.out, kF_big (by omega)]; omega)
                    have hb6 := HBL.out
                    have hown6 : wr.ownsRow w2.heap.size 131 3 (.slice ao s cap2) s (slotCells t s) := own_below HW.out hb5
                    have hs5 := hb5.size
                    go_wp2_with (at_builtin; refine wpList_append_own _ rfl (.tmp 77) (.tmp 79) 125 rfl w2.heap.size 131 i1 (.agg #[.int .i64 0, .int .i64 0, .int .i64 0]) 3 24 Tryz.underlying125 gi gz0 gz1 gz2 rfl (by decide) _ _ _ rfl (hown6.alloc _) ⟨_, 0, none⟩ 1 1 [.int .i64 (V : Int), .int .i64 (N : Int), .int .i64 (j : Int)] rfl rfl (cell_three_new _ _ _ _ _) (by intro u hu; simp at hu; rcases hu with rfl | rfl | rfl <;> rfl) (by unfold maxLen; omega) (by omega) (by simp; omega) ?_; intro v' w7 hown' hgrow _)
                    go_roundw
                    case rel =>
                      have hown8 : w7.ownsRow w2.heap.size 131 3 v' (s + 1) (slotCells t (s + 1)) := by
                        rw [slotCells, slotCell, HV.out, HN.out, ← HJ.out]; exact hown'
                      have bel8 : Below w2.heap.size w2 w7 := ((hb6.trans (hb5.mono (by omega))).alloc (by omega) _).grown hgrow (by simp; omega) (own_base hown6)
                      first
                        | exact ⟨s + 1, by omega, by go_num, hown8, bel8⟩
                        | ((repeat apply Exists.intro); exact ⟨⟨s + 1, by omega, by go_num, hown8, bel8⟩, rfl⟩)
                    case measure => simp [intOf]; omega
          · have HS64 := hid (show s = 64 from by omega)
            rw [HS64.out] at hown
            go_wp2
            go_ret
            exact ⟨_, rfl, own_mono hown (by omega), hbel.trans (hb3.mono (by omega))⟩

/-! ### P5, P6: the walks of the document's found, value. -/
/-- The slots lie in block g. -/
def Sls (w : World) (g : Nat) (t : ByteArray) : Prop := g < w.heap.size ∧ ∀ k, k < 64 → w.cell? ⟨g, k * 3, none⟩ = some (.int .i64 (tOwn t k : Int)) ∧ w.cell? ⟨g, k * 3 + 1, none⟩ = some (.int .i64 (tNum t k : Int)) ∧ w.cell? ⟨g, k * 3 + 2, none⟩ = some (.int .i64 (kOf (tNum t k) : Int))
theorem Sls.below {w w' : World} {g : Nat} {t : ByteArray} (h : Sls w g t) (hb : Below w.heap.size w w') : Sls w' g t := by
  refine ⟨Nat.lt_of_lt_of_le h.1 hb.size, fun k hk => ?_⟩
  obtain ⟨a, b, c⟩ := h.2 k hk
  exact ⟨(hb.cell (p := ⟨g, k * 3, none⟩) h.1).trans a, (hb.cell (p := ⟨g, k * 3 + 1, none⟩) h.1).trans b, (hb.cell (p := ⟨g, k * 3 + 2, none⟩) h.1).trans c⟩
theorem Sls.of_own {w : World} {base : Nat} {t : ByteArray} {v : Value} (h : w.ownsRow base 131 3 v 64 (slotCells t 64)) : ∃ g cap, v = .slice (some ⟨g, 0, none⟩) 64 cap ∧ Sls w g t := by
  have hl := own_lt h
  rcases h.2 with ⟨_, h0⟩ | ⟨g, cap, cur, rfl, hg, hgb, _⟩
  · omega
  · refine ⟨g, cap, rfl, hl g rfl, fun k hk => ⟨?_, ?_, ?_⟩⟩
    · rw [World.ownsRow.cellAt h (k * 3) (by omega)]
      have := slotCells_get t 64 k hk 0 (by omega)
      rw [Nat.add_zero] at this
      rw [this]; rfl
    · rw [World.ownsRow.cellAt h (k * 3 + 1) (by omega), slotCells_get t 64 k hk 1 (by omega)]; rfl
    · rw [World.ownsRow.cellAt h (k * 3 + 2) (by omega), slotCells_get t 64 k hk 2 (by omega)]; rfl

theorem pow_bd {K : Nat} (h : K ≤ 6) : 1 ≤ (2 : Int) ^ K ∧ (2 : Int) ^ K ≤ 64 := by
  match K, h with
  | 0, _ => exact of_decide_eq_true rfl
  | 1, _ => exact of_decide_eq_true rfl
  | 2, _ => exact of_decide_eq_true rfl
  | 3, _ => exact of_decide_eq_true rfl
  | 4, _ => exact of_decide_eq_true rfl
  | 5, _ => exact of_decide_eq_true rfl
  | 6, _ => exact of_decide_eq_true rfl
theorem low_bd {n q : Nat} (h1 : 1 ≤ q) (h3 : q ≤ n ∧ n < 2 * q) (h2 : q ≤ 64) : 64 ≤ (n : Int) * 2 ^ kOf n ∧ (n : Int) * 2 ^ kOf n ≤ 127 := by
  have hk := kOf_cases (n := n) (by omega)
  generalize kOf n = k at *
  rcases hk with ⟨rfl, a⟩ | ⟨rfl, a, c⟩ | ⟨rfl, a, c⟩ | ⟨rfl, a, c⟩ | ⟨rfl, a, c⟩ | ⟨rfl, a, c⟩ | ⟨rfl, a⟩
  all_goals
    simp only [Int.reducePow]
    omega
theorem match_iff (m N K : Nat) : m / 2 ^ K = N ↔ ((N * 2 ^ K : Nat) : Int) ≤ (m : Int) ∧ (m : Int) < ((N * 2 ^ K + 2 ^ K : Nat) : Int) := by
  have hp : 0 < 2 ^ K := Nat.two_pow_pos K
  have e1 := Nat.div_add_mod m (2 ^ K)
  have e2 := Nat.mod_lt m hp
  constructor
  · rintro rfl
    rw [Nat.mul_comm (m / 2 ^ K)]
    omega
  · rintro ⟨h1, h2⟩
    refine Nat.div_eq_of_lt_le (by omega) ?_
    rw [Nat.add_mul, Nat.one_mul]
    omega

set_option maxRecDepth 100000 in
set_option maxHeartbeats 800000 in
theorem found_yes (t : ByteArray) (g cap v a s : Nat) (w : World) (h : Sls w g t) (ht : TOk t) (ha : a < 64) (hs : s < 64) (h1 : tOwn t s = v) (h2 : (64 + a) / 2 ^ kOf (tNum t s) = tNum t s) (h3 : ∀ j, j < s → tOwn t j = v → (64 + a) / 2 ^ kOf (tNum t j) ≠ tNum t j) :
    Calls Tryz.prog 107 #[.slice (some ⟨g, 0, none⟩) 64 cap, .int .i64 v, .int .i64 a] w fun e w' => e = .returned (.int .i64 (s : Int)) ∧ ∃ n, w' = w.drewN n := by
  have H1 := hid h1
  have H2 := hid h2
  have H3 := hid h3
  have HT := hid ht
  clear h1 h2 h3 ht
  go_enter Tryz.func107, Tryz.ntmps107
  go_wp2
  go_loopw [7, 8] (fun i _ wr => ∃ k n : Nat, k ≤ s ∧ wr = w.drewN n ∧ i = .int .i64 k) (fun i _ _ => 64 - (intOf i).toNat)
  case atStart => exact ⟨0, 0, Nat.zero_le _, rfl, rfl⟩
  case round =>
    obtain ⟨k, n, hk, rfl, rfl⟩ := hrel
    have hk64 : k < 64 := by omega
    obtain ⟨c1, c2, c3⟩ := h.2 k hk64
    have hkc := kOf_cases (n := tNum t k) (by have := HT.out.num_bd hk64; have := HT.out.one k hk64; omega)
    have hn1 := HT.out.num_bd hk64
    have hn2 := HT.out.one k hk64
    have hn3 := HT.out.le (tOwn t k)
    have hK : kOf (tNum t k) ≤ 6 := by omega
    have hp := pow_bd hK
    have hl := low_bd hn2 hn1 hn3
    have HM := hid (match_iff (64 + a) (tNum t k) (kOf (tNum t k)))
    clear hkc hn1 hn3
    have hnN : (tNum t k : Int) ≤ 127 := by
      have := HT.out.num_bd hk64
      have := HT.out.le (tOwn t k)
      omega
    have H3k := hid (fun (hlt : k < s) (ho : tOwn t k = v) => H3.out k hlt ho)
    have H2k := hid (fun (e : k = s) => show (64 + a) / 2 ^ kOf (tNum t k) = tNum t k from by rw [e]; exact H2.out)
    have H1k := hid (fun (e : k = s) => show tOwn t k = v from by rw [e]; exact H1.out)
    generalize tNum t k = N at *
    generalize kOf N = K at *
    by_cases c1 : tOwn t k = v
    · have e1 : ((tOwn t k : Int) == (v : Int)) = true := by simp [c1]
      have HC1 := hid c1
      clear c1
      by_cases c2 : (N : Int) * 2 ^ K ≤ 64 + (a : Int)
      · by_cases c3 : 64 + (a : Int) < (N : Int) * 2 ^ K + 2 ^ K
        · have HE := hid (show k = s from by
            apply Nat.le_antisymm hk
            apply Nat.le_of_not_lt
            intro hlt
            exact H3k.out hlt HC1.out (HM.out.2 ⟨by push_cast; omega, by push_cast; omega⟩))
          clear HM H1k H2k H3k
          go_wp2_with fail
          go_quiet (fail)
          go_wp2
          go_ret
          exact ⟨congrArg (fun q : Nat => Ending.returned (.int .i64 (q : Int))) HE.out, _, rfl⟩
        · have HE := hid (show k ≠ s from fun e => by
            have := HM.out.1 (H2k.out e)
            push_cast at this
            omega)
          have c3' : decide (64 + (a : Int) < (N : Int) * 2 ^ K + 2 ^ K) = false := by simp; omega
          clear HM H1k H2k H3k
          go_wp2_with fail
          go_quiet (fail)
          go_wp2
          go_roundw
          case rel => exact ⟨k + 1, _, by have := HE.out; omega, rfl, by go_num⟩
          case measure => simp [intOf]; omega
      · have HE := hid (show k ≠ s from fun e => by
          have := HM.out.1 (H2k.out e)
          push_cast at this
          omega)
        have c2' : decide ((N : Int) * 2 ^ K ≤ 64 + (a : Int)) = false := by simp; omega
        clear HM H1k H2k H3k
        go_wp2_with fail
        go_quiet (fail)
        go_wp2
        go_roundw
        case rel => exact ⟨k + 1, _, by have := HE.out; omega, rfl, by go_num⟩
        case measure => simp [intOf]; omega
    · have e1 : ((tOwn t k : Int) == (v : Int)) = false := by simp; omega
      have HE := hid (show k ≠ s from fun e => c1 (H1k.out e))
      clear HM H1k H2k H3k c1
      go_wp2_with fail
      go_quiet (fail)
      go_wp2
      go_roundw
      case rel => exact ⟨k + 1, _, by have := HE.out; omega, rfl, by go_num⟩
      case measure => simp [intOf]; omega

set_option maxRecDepth 100000 in
set_option maxHeartbeats 800000 in
theorem found_no (t : ByteArray) (g cap v a : Nat) (w : World) (h : Sls w g t) (ht : TOk t) (_ha : a < 64) (hno : ∀ s, s < 64 → tOwn t s ≠ v) :
    Calls Tryz.prog 107 #[.slice (some ⟨g, 0, none⟩) 64 cap, .int .i64 v, .int .i64 a] w fun e w' => e = .returned (.int .i64 (-1)) ∧ ∃ n, w' = w.drewN n := by
  have HN := hid hno
  have HT := hid ht
  clear hno ht
  go_enter Tryz.func107, Tryz.ntmps107
  go_wp2
  go_loopw [7, 8] (fun i _ wr => ∃ k n : Nat, k ≤ 64 ∧ wr = w.drewN n ∧ i = .int .i64 k) (fun i _ _ => 64 - (intOf i).toNat)
  case atStart => exact ⟨0, 0, Nat.zero_le _, rfl, rfl⟩
  case round =>
    obtain ⟨k, n, hk, rfl, rfl⟩ := hrel
    by_cases hk64 : k < 64
    · obtain ⟨c1, c2, c3⟩ := h.2 k hk64
      have hkc := kOf_cases (n := tNum t k) (by have := HT.out.num_bd hk64; have := HT.out.one k hk64; omega)
      have hn1 := HT.out.num_bd hk64
      have hn2 := HT.out.one k hk64
      have hn3 := HT.out.le (tOwn t k)
      have hK : kOf (tNum t k) ≤ 6 := by omega
      have hp := pow_bd hK
      have hl := low_bd hn2 hn1 hn3
      have hnN : (tNum t k : Int) ≤ 127 := by omega
      have hov := HN.out k hk64
      have e1 : ((tOwn t k : Int) == (v : Int)) = false := by simp; omega
      clear hkc hn1 hn3 hn2 hov
      generalize tNum t k = N at *
      generalize kOf N = K at *
      go_wp2_with fail
      go_quiet (fail)
      go_wp2
      go_roundw
      case rel => exact ⟨k + 1, _, by omega, rfl, by go_num⟩
      case measure => simp [intOf]; omega
    · go_wp2
      go_ret
      exact ⟨rfl, n, rfl⟩

theorem valF_bd {f : Nat → Nat} (hf : ∀ i, f i < 2) (a : Nat) {n : Nat} (hn : n ≤ 8) : valF f a n ≤ 255 := by
  have h1 := valF_lt hf a n
  have h2 : 2 ^ n ≤ 2 ^ 8 := Nat.pow_le_pow_right (by omega) hn
  omega

set_option maxRecDepth 100000 in
set_option maxHeartbeats 400000 in
theorem value_any (b : ByteArray) (f : Nat → Nat) (a n : Nat) (w : World) (hf : ∀ i, f i < 2) (hb1 : ∀ i, i < b.size → btn b i = 48 + f i) (hb2 : ∀ i, b.size ≤ i → f i = 0) (ha : a ≤ 100000) (hn : n ≤ 8) (hbs : b.size ≤ maxLen) :
    Calls Tryz.prog 77 #[.string b, .int .i64 a, .int .i64 n] w fun e w' => e = .returned (.int .i64 (valF f a n : Int)) ∧ w' = w := by
  unfold maxLen at hbs
  have hb := get_btn b
  have HF := hid hf
  have HB1 := hid hb1
  have HB2 := hid hb2
  clear hf hb1 hb2
  go_enter Tryz.func77, Tryz.ntmps77
  go_wp2
  go_loop [7, 8] (fun v i => ∃ j : Nat, j ≤ n ∧ i = .int .i64 ((a : Int) + (j : Int)) ∧ v = .int .i64 (valF f a j : Int)) (fun _ i => a + n - (intOf i).toNat)
  case atStart => exact ⟨0, Nat.zero_le _, by simp, rfl⟩
  case round =>
    obtain ⟨j, hj, rfl, rfl⟩ := hrel
    have hv := valF_bd HF.out a (n := j) (by omega)
    by_cases hlt : j < n
    · have HV := hid (show valF f a (j + 1) = 2 * valF f a j + f (a + j) from rfl)
      have hfj := HF.out (a + j)
      generalize valF f a j = x at *
      by_cases c1 : a + j < b.size
      · have e := HB1.out (a + j) c1
        by_cases c2 : f (a + j) = 1
        · have c2' : ((btn b (a + j) : Int) == 49) = true := by simp; omega
          have HC := hid c2
          clear c2 e
          go_wp2
          go_round
          case rel => exact ⟨j + 1, by omega, by go_num, by rw [HV.out, HC.out]; go_num⟩
          case measure => simp [intOf]; omega
        · have c2' : ((btn b (a + j) : Int) == 49) = false := by simp; omega
          have HC := hid (show f (a + j) = 0 from by omega)
          clear c2 e
          go_wp2
          go_round
          case rel => exact ⟨j + 1, by omega, by go_num, by rw [HV.out, HC.out]; go_num⟩
          case measure => simp [intOf]; omega
      · have HC := hid (HB2.out (a + j) (by omega))
        have c1' : decide ((a : Int) + (j : Int) < (b.size : Int)) = false := by simp; omega
        go_wp2
        go_round
        case rel => exact ⟨j + 1, by omega, by go_num, by rw [HV.out, HC.out]; go_num⟩
        case measure => simp [intOf]; omega
    · have HJ := hid (show j = n from by omega)
      go_wp2
      go_ret
      exact ⟨ret_int' (by rw [HJ.out]), rfl⟩

/-! ### P5, P6: the walk of the document's written. -/
theorem digits_int (x : Int) (k : Nat) (w : World) (h0 : 0 ≤ x) (hn : x < 4096) (hk : k ≤ 64) :
    Calls Tryz.prog 79 #[.int .i64 x, .int .i64 k] w fun e w' => e = .returned (.string (strOfNums (sgn (digB x.toNat k)))) ∧ Below w.heap.size w w' := by
  obtain ⟨n, rfl⟩ := Int.eq_ofNat_of_zero_le h0
  exact digits_any n k w (by omega) hk

theorem wrap_two {a n : Int} (h1 : 0 ≤ a ∧ a ≤ 64) (h2 : 0 ≤ n ∧ n ≤ 127) : IntKind.i64.wrap (IntKind.i64.wrap (64 + a) - IntKind.i64.wrap n) = 64 + a - n := by
  rw [IntWalk.i64_in (64 + a) ⟨by omega, by omega⟩, IntWalk.i64_in n ⟨by omega, by omega⟩, IntWalk.i64_in _ ⟨by omega, by omega⟩]
/-- One slot alone fits. -/
theorem TOk.uniq {t : ByteArray} (h : TOk t) {v a j : Nat} (hj : j < 64) (ho : tOwn t j = v) (hm : (64 + a) / 2 ^ kOf (tNum t j) = tNum t j) : stS t v a = j := by
  have e := Nat.div_add_mod (64 + a) (2 ^ kOf (tNum t j))
  rw [hm] at e
  have hb := Nat.mod_lt (64 + a) (Nat.two_pow_pos (kOf (tNum t j)))
  have b := h.back hj hb
  rw [Nat.mul_comm] at e
  rw [e, ho] at b
  rw [show 64 + a - 64 = a from by omega] at b
  exact b.2.2.1
theorem TOk.low {t : ByteArray} (h : TOk t) {v a : Nat} (hv : 1 ≤ tShr t v) (ha : a < 64) :
    0 ≤ 64 + (a : Int) - (tNum t (stS t v a) : Int) * 2 ^ kOf (tNum t (stS t v a)) ∧ 64 + (a : Int) - (tNum t (stS t v a) : Int) * 2 ^ kOf (tNum t (stS t v a)) < 64 ∧
    digB (64 + (a : Int) - (tNum t (stS t v a) : Int) * 2 ^ kOf (tNum t (stS t v a))).toNat (kOf (tNum t (stS t v a))) = stB t v a := by
  obtain ⟨h1, h2, h3, h4, h5⟩ := h.st hv ha
  have hm : (64 + a) / 2 ^ kOf (tNum t (stS t v a)) = tNum t (stS t v a) := by rw [h4, h3]
  have hb := Nat.mod_lt (64 + a) (Nat.two_pow_pos (kOf (tNum t (stS t v a))))
  have e := Nat.div_add_mod (64 + a) (2 ^ kOf (tNum t (stS t v a)))
  rw [hm, Nat.mul_comm] at e
  have hp := pow_bd (K := kOf (tNum t (stS t v a))) (by omega)
  have ei : 64 + (a : Int) - (tNum t (stS t v a) : Int) * 2 ^ kOf (tNum t (stS t v a)) = (((64 + a) % 2 ^ kOf (tNum t (stS t v a)) : Nat) : Int) := by
    have e2 : (((tNum t (stS t v a) * 2 ^ kOf (tNum t (stS t v a)) + (64 + a) % 2 ^ kOf (tNum t (stS t v a)) : Nat)) : Int) = ((64 + a : Nat) : Int) := by rw [e]
    push_cast at e2 ⊢
    omega
  rw [ei]
  refine ⟨by omega, ?_, ?_⟩
  · have : (((2 ^ kOf (tNum t (stS t v a)) : Nat)) : Int) ≤ 64 := by push_cast; exact hp.2
    omega
  · rw [Int.toNat_natCast]
    unfold stB
    rw [← h4]
    conv => rhs; rw [← e]
    rw [digB_mod]

theorem ret_str {a b : ByteArray} (h : a = b) : Ending.returned (.string a) = .returned (.string b) := by rw [h]
def wrt (t s : ByteArray) : ByteArray := if allSh t s then strOfNums (sgn (padL (encB t s))) else ⟨#[]⟩

set_option maxRecDepth 100000 in
set_option maxHeartbeats 800000 in
theorem written_any (t s : ByteArray) (g cap : Nat) (w : World) (h : Sls w g t) (ht : TOk t) (hs : s.size ≤ 500) :
    Calls Tryz.prog 76 #[.slice (some ⟨g, 0, none⟩) 64 cap, .string s] w fun e w' => e = .returned (.string (wrt t s)) ∧ Below w.heap.size w w' := by
  have hb := get_btn s
  have HT := hid ht
  clear ht
  go_enter Tryz.func76, Tryz.ntmps76
  go_wp2
  go_loopw [5, 6, 7, 8, 9] (fun a b i _ _ wr => ∃ c : Nat, c ≤ s.size ∧ i = .int .i64 ((s.size : Int) - 1 - (c : Int)) ∧ a = .int .i64 ((encT t s c).1 : Int) ∧ b = .string (strOfNums (sgn (encT t s c).2)) ∧ (∀ j, j < c → 1 ≤ tShr t (btn s (s.size - 1 - j))) ∧ Below w.heap.size w wr) (fun _ _ i _ _ _ => (intOf i + 1).toNat)
  case atStart => exact ⟨0, Nat.zero_le _, by simp, rfl, rfl, fun j hj => by omega, Below.refl _ _⟩
  case round =>
    obtain ⟨c, hc, rfl, rfl, rfl, hsh, hbel⟩ := hrel
    have E := encOk HT.out c hsh
    have hlt := E.lt
    have hlen : (strOfNums (sgn (encT t s c).2)).size ≤ 6 * c := by rw [strOfNums_size, sgn_len]; exact E.len
    have HSH := hid hsh
    have hS := h.below hbel
    have hsz := hbel.size
    clear hsh E
    by_cases hcn : c < s.size
    · have hidx : s.size - 1 - c < s.size := by omega
      have b1 := btn_lt s (s.size - 1 - c)
      have HEN := hid (show encT t s (c + 1) = (stS t (btn s (s.size - 1 - c)) (encT t s c).1, stB t (btn s (s.size - 1 - c)) (encT t s c).1 ++ (encT t s c).2) from rfl)
      generalize encT t s c = ec at *
      obtain ⟨a, bs⟩ := ec
      simp only at hlt hlen HEN ⊢
      by_cases hv : 1 ≤ tShr t (btn s (s.size - 1 - c))
      · obtain ⟨s1, s2, s3, s4, s5⟩ := HT.out.st hv hlt
        have hcall := hid (found_yes t g cap (btn s (s.size - 1 - c)) a (stS t (btn s (s.size - 1 - c)) a) wr hS HT.out hlt s1 s2 (by rw [s4, s3]) (fun j hj ho hm => by have := HT.out.uniq (a := a) (by omega) ho hm; omega))
        have low := HT.out.low hv hlt
        have hK : kOf (tNum t (stS t (btn s (s.size - 1 - c)) a)) ≤ 6 := by rw [s4]; exact s5
        have hp := pow_bd hK
        have hn1 := HT.out.num_bd s1
        have hn2 := HT.out.one _ s1
        have hn3 := HT.out.le (tOwn t (stS t (btn s (s.size - 1 - c)) a))
        have hl := low_bd hn2 hn1 hn3
        have hnN : (tNum t (stS t (btn s (s.size - 1 - c)) a) : Int) ≤ 127 := by omega
        obtain ⟨c1, c2, c3⟩ := hS.2 _ s1
        have HLO := hid low.2.2
        have low1 := low.1
        have low2 := low.2.1
        have HV := hid hv
        have hd0 : decide (((stS t (btn s (s.size - 1 - c)) a : Nat) : Int) < 0) = false := by simp
        clear low s2 s3 s4 s5 hn1 hn2 hn3 hv
        generalize stB t (btn s (s.size - 1 - c)) a = sb at *
        generalize stS t (btn s (s.size - 1 - c)) a = ss at *
        generalize tNum t ss = N at *
        generalize kOf N = K at *
        go_wp2_with (go_at_call 107; refine Calls.mono hcall.out ?_; rintro e w' ⟨rfl, nq, rfl⟩)
        have HWR := hid (show IntKind.i64.wrap (IntKind.i64.wrap (64 + (a : Int)) - IntKind.i64.wrap ((N : Int) * 2 ^ K)) = 64 + (a : Int) - (N : Int) * 2 ^ K from wrap_two (by omega) (by omega))
        have low3 : 64 + (a : Int) - (N : Int) * 2 ^ K < 4096 := by omega
        have hK64 : K ≤ 64 := by omega
        have hsi : (ss : Int) < 64 := by omega
        have hgS := hS.1
        go_region_held3 (fun w' => w'.cell? ⟨g, ss * 3 + 1, none⟩ = some (.int .i64 (N : Int)) ∧ w'.cell? ⟨g, ss * 3 + 2, none⟩ = some (.int .i64 (K : Int))) (first | go_keep | (refine ⟨?_, ?_⟩ <;> assumption) | assumption) (first | (go_at_call 79; rw [HWR.out]; refine (digits_int _ K _ low1 low3 hK64).mono ?_; rintro e w1 ⟨rfl, b1⟩; have k1 : w1.cell? ⟨g, ss * 3 + 1, none⟩ = some (.int .i64 (N : Int)) := (b1.cell (p := ⟨g, ss * 3 + 1, none⟩) hgS).trans c2; have k2 : w1.cell? ⟨g, ss * 3 + 2, none⟩ = some (.int .i64 (K : Int)) := (b1.cell (p := ⟨g, ss * 3 + 2, none⟩) hgS).trans c3))
        rw [HLO.out]
        have hlen2 : (strOfNums (sgn sb)).size ≤ 6 := by
          rw [← HLO.out, strOfNums_size, sgn_len, digB_len]; exact hK
        go_wp2
        go_roundw
        case rel =>
          refine ⟨c + 1, by omega, by go_num, by rw [HEN.out], by rw [HEN.out, sgn_append, str_append], fun j hj => ?_, ?_⟩
          · rcases Nat.lt_or_ge j c with d | d
            · exact HSH.out j d
            · obtain rfl : j = c := by omega
              exact HV.out
          · exact (Below.drewN hbel _).trans (b1.mono hsz)
        case measure => simp [intOf]; omega
      · have HF := hid (allSh_no hidx hv)
        have HQ := hid (show wrt t s = ⟨#[]⟩ from by unfold wrt; rw [HF.out]; rfl)
        have hcall := hid (found_no t g cap (btn s (s.size - 1 - c)) a wr hS HT.out hlt (fun j hj e => hv (by rw [← e]; exact HT.out.one j hj)))
        clear hv
        go_wp2_with (go_at_call 107; refine Calls.mono hcall.out ?_; rintro e w' ⟨rfl, nq, rfl⟩)
        go_ret
        exact ⟨ret_str HQ.out.symm, Below.drewN hbel _⟩
    · have HCN := hid (show c = s.size from by omega)
      have HF := hid (allSh_yes (t := t) (s := s) (fun j hj => HSH.out j (by rw [HCN.out]; exact hj)))
      have HQ := hid (show wrt t s = strOfNums (sgn (padL (encB t s))) from by unfold wrt; rw [HF.out]; rfl)
      have HEB := hid (show encB t s = digB (encT t s c).1 6 ++ (encT t s c).2 from by rw [HCN.out]; rfl)
      have hdi : decide ((0 : Int) ≤ (s.size : Int) - 1 - (c : Int)) = false := by simp; omega
      have hcall := hid (digits_any (encT t s c).1 6 wr (by omega) (by omega))
      have hone : (⟨#[49]⟩ : ByteArray).size = 1 := rfl
      have hone2 : (⟨#[48]⟩ : ByteArray).size = 1 := rfl
      have hlen6 : (strOfNums (sgn (digB (encT t s c).1 6))).size = 6 := by rw [strOfNums_size, sgn_len, digB_len]
      have HS1 := hid (show strOfNums (sgn (digB (encT t s c).1 6)) ++ strOfNums (sgn (encT t s c).2) ++ ⟨#[49]⟩ = strOfNums (sgn (encB t s ++ [1])) from by
        rw [str_append, show (⟨#[49]⟩ : ByteArray) = strOfNums (sgn [1]) from rfl, str_append, ← sgn_append, ← sgn_append, HEB.out])
      have HLE := hid (show (encB t s).length ≤ 3006 from by
        have e : (strOfNums (sgn (encT t s c).2)).size = (encT t s c).2.length := by rw [strOfNums_size, sgn_len]
        rw [HEB.out, List.length_append, digB_len]; omega)
      generalize strOfNums (sgn (digB (encT t s c).1 6)) = d6 at *
      generalize strOfNums (sgn (encT t s c).2) = db at *
      generalize (encT t s c).1 = a at *
      have hEle := HLE.out
      have HZ := hid (fun z => show strOfNums (sgn (encB t s ++ 1 :: List.replicate z 0)) ++ ⟨#[48]⟩ = strOfNums (sgn (encB t s ++ 1 :: List.replicate (z + 1) 0)) from by
        rw [show (⟨#[48]⟩ : ByteArray) = strOfNums (sgn [0]) from rfl, str_append, ← sgn_append, List.append_assoc, List.cons_append, List.replicate_succ'])
      have HSZ := hid (fun z => show (strOfNums (sgn (encB t s ++ 1 :: List.replicate z 0))).size = (encB t s).length + 1 + z from by
        rw [strOfNums_size, sgn_len]; simp; omega)
      have HP := hid (show padL (encB t s) = encB t s ++ 1 :: List.replicate (7 - (encB t s).length % 8) 0 from rfl)
      rw [HP.out] at HQ
      have H10 := hid (show strOfNums (sgn (encB t s ++ [1])) = strOfNums (sgn (encB t s ++ 1 :: List.replicate 0 0)) from rfl)
      clear HP HEB
      go_wp2_with (go_at_call 79; refine Calls.mono hcall.out ?_; rintro e w5 ⟨rfl, b5⟩)
      go_loopg [6] (7 - (encB t s).length % 8) (fun gk b wi => ∃ z : Nat, z + gk = 7 - (encB t s).length % 8 ∧ b = .string (strOfNums (sgn (encB t s ++ 1 :: List.replicate z 0))) ∧ wi = w5)
      case atStart => exact ⟨0, by omega, by rw [HS1.out, H10.out], rfl⟩
      case round =>
        obtain ⟨z, hz, rfl, rfl⟩ := hrel
        have hsz2 := HSZ.out z
        have HZZ := hid (HZ.out z)
        have hbel2 := hbel.trans (b5.mono hsz)
        by_cases hgk : z < 7 - (encB t s).length % 8
        · have hne : ((((encB t s).length : Int) + 1 + (z : Int)) % 8 != 0) = true := by simp; omega
          generalize (encB t s).length = n at *
          generalize strOfNums (sgn (encB t s ++ 1 :: List.replicate z 0)) = S at *
          go_wp2
          go_roundg (7 - n % 8 - (z + 1))
          case measure => omega
          case rel => exact ⟨z + 1, by omega, by rw [HZZ.out], rfl⟩
        · have hne : ((((encB t s).length : Int) + 1 + (z : Int)) % 8 != 0) = false := by simp; omega
          have HZE := hid (show z = 7 - (encB t s).length % 8 from by omega)
          rw [← HZE.out] at HQ
          clear HZE
          generalize (encB t s).length = n at *
          generalize strOfNums (sgn (encB t s ++ 1 :: List.replicate z 0)) = S at *
          go_wp2
          go_ret
          exact ⟨ret_str HQ.out.symm, hbel2⟩

/-! ### P5: the walk of the document's Squeeze. -/
theorem not_empty {s : ByteArray} (h : s.size ≠ 0) : s.toList.isEmpty = false := by
  rw [ByteArray.toList_eq]
  cases hd : s.data.toList with
  | nil =>
    exfalso
    apply h
    show s.data.size = 0
    rw [← Array.length_toList, hd]; rfl
  | cons a l => rfl
theorem btn_sgn (L : List Nat) (h : ∀ x ∈ L, x < 2) (i : Nat) (hi : i < (strOfNums (sgn L)).size) : btn (strOfNums (sgn L)) i = 48 + bl L i := by
  rw [strOfNums_size, sgn_len] at hi
  have := bt_str (sgn L) (fun x hx => by
    simp only [sgn, List.mem_map] at hx
    obtain ⟨b, hb, rfl⟩ := hx
    have := h b hb
    omega) i (by rw [sgn_len]; exact hi)
  unfold btn bl
  rw [this]
  simp only [sgn, List.getD_eq_getElem?_getD, List.getElem?_map, List.getElem?_eq_getElem hi, Option.map_some, Option.getD_some]
  omega
theorem padL_bits {B : List Nat} (h : ∀ x ∈ B, x < 2) : ∀ x ∈ padL B, x < 2 := by
  intro x hx
  simp only [padL, List.mem_append, List.mem_cons, List.mem_replicate] at hx
  rcases hx with hx | hx | hx
  · exact h x hx
  · omega
  · omega
theorem padL_len (B : List Nat) : (padL B).length = 8 * (B.length / 8 + 1) := by simp [padL]; omega
theorem encB_bits {t s : ByteArray} (h : TOk t) (hs : ∀ j, j < s.size → 1 ≤ tShr t (btn s (s.size - 1 - j))) : ∀ x ∈ encB t s, x < 2 := by
  intro x hx
  rcases List.mem_append.1 hx with hx | hx
  · exact digB_bit _ _ x hx
  · exact (encOk h s.size hs).bit x hx
theorem encB_len {t s : ByteArray} (h : TOk t) (hs : ∀ j, j < s.size → 1 ≤ tShr t (btn s (s.size - 1 - j))) : (encB t s).length ≤ 6 + 6 * s.size := by
  have := (encOk h s.size hs).len
  unfold encB
  rw [List.length_append, digB_len]; omega
theorem allSh_elim {t s : ByteArray} (h : allSh t s = true) : ∀ j, j < s.size → 1 ≤ tShr t (btn s (s.size - 1 - j)) := by
  simp only [allSh, decide_eq_true_eq] at h
  intro j hj
  exact h _ (by omega)

set_option maxRecDepth 100000 in
set_option maxHeartbeats 800000 in
theorem refSqueeze_any (t s : ByteArray) (w : World) (ht : t.size ≤ maxLen) (hs : s.size ≤ maxLen) :
    Calls Tryz.prog 38 #[.string t, .string s] w fun e w' => e = .returned (.tuple #[.string (sqAns t s).1, .int .i64 (sqAns t s).2]) ∧ Below w.heap.size w w' := by
  obtain ⟨i0, hi, hz0, hz1, hz2⟩ := info_parts Tryz.infoU8
  by_cases hl : 500 < s.size
  · have HA := hid (show sqAns t s = (⟨#[]⟩, 1) from by unfold sqAns; rw [if_pos hl])
    unfold maxLen at hs
    have hl' : (500 : Int) < (s.size : Int) := by omega
    go_enter Tryz.func38, Tryz.ntmps38
    go_wp2
    go_ret2
    exact ⟨ret_ans HA.out.symm, Below.refl _ _⟩
  · have hl' : ¬ (500 : Int) < (s.size : Int) := by omega
    have hcall := hid (refIsTable_any t w ht)
    cases hT : isTB t
    · have HA := hid (show sqAns t s = (⟨#[]⟩, 3) from by unfold sqAns; rw [if_neg hl, if_pos hT])
      rw [hT] at hcall
      clear hT
      go_enter Tryz.func38, Tryz.ntmps38
      go_wp2_with fail
      refine Calls.mono hcall.out ?_
      rintro e w1 ⟨rfl, nq, rfl⟩
      go_wp2
      go_ret2
      exact ⟨ret_ans HA.out.symm, Below.drewN (Below.refl _ _) _⟩
    · have hok := tok hT
      have HA := hid (show sqAns t s = if allSh t s = false then (⟨#[]⟩, 4) else (strN (packL (encB t s)), 0) from by unfold sqAns; rw [if_neg hl, if_neg (by rw [hT]; simp)])
      have HSL := hid (fun w => slots_any t w hT (fun k hk => by have := hok.num_bd hk; have := hok.one k hk; have := hok.le (tOwn t k); omega) hok.le)
      have HW := hid (fun g cap w h => written_any t s g cap w h hok (by omega))
      have HOK := hid hok
      rw [hT] at hcall
      clear hT hok
      go_enter Tryz.func38, Tryz.ntmps38
      go_wp2_with fail
      refine Calls.mono hcall.out ?_
      rintro e w1 ⟨rfl, nq, rfl⟩
      go_wp2_with fail
      refine Calls.mono (HSL.out _) ?_
      rintro e w2 ⟨v, rfl, hown, b2⟩
      have hb2 : Below w.heap.size w w2 := (Below.drewN (Below.refl _ _) nq).trans b2
      obtain ⟨g, cap, hv, hsl⟩ := Sls.of_own hown
      rw [hv]
      clear hown hv b2 hcall
      have hcw := hid (HW.out g cap w2 hsl)
      go_wp2_with fail
      cases hA : allSh t s
      · have e1 : wrt t s = ⟨#[]⟩ := by unfold wrt; rw [hA]; rfl
        rw [e1] at hcw
        rw [if_pos hA] at HA
        clear hA e1
        refine Calls.mono hcw.out ?_
        rintro e w3 ⟨rfl, b3⟩
        go_wp2
        go_ret2
        exact ⟨ret_ans HA.out.symm, hb2.trans (b3.mono hb2.size)⟩
      · have e1 : wrt t s = strOfNums (sgn (padL (encB t s))) := by unfold wrt; rw [hA]; rfl
        rw [e1] at hcw
        rw [if_neg (by rw [hA]; simp)] at HA
        have hbits := encB_bits HOK.out (allSh_elim hA)
        have hlen := encB_len HOK.out (allSh_elim hA)
        clear hA e1
        have HV := hid (fun a w (ha : a ≤ 100000) => value_any (strOfNums (sgn (padL (encB t s)))) (bl (padL (encB t s))) a 8 w (fun i => bl_lt (padL_bits hbits) i) (fun i hi => btn_sgn _ (padL_bits hbits) i hi) (fun i hi => by
          rw [strOfNums_size, sgn_len] at hi
          unfold bl
          rw [List.getD_eq_getElem?_getD, List.getElem?_eq_none hi]; rfl) ha (by omega) (by rw [strOfNums_size, sgn_len, padL_len]; unfold maxLen; omega))
        have hsize : (strOfNums (sgn (padL (encB t s)))).size = 8 * ((encB t s).length / 8 + 1) := by rw [strOfNums_size, sgn_len, padL_len]
        have HPK := hid (show packL (encB t s) = pkTo (encB t s) ((encB t s).length / 8 + 1) from rfl)
        have HVB := hid (fun k => valF8 (fun i => bl_lt (padL_bits hbits) i) (8 * k) (n := 8) (by omega))
        have HPS := hid (pkTo_succ (encB t s))
        rw [HPK.out] at HA
        clear hbits HPK
        have hemp : (strOfNums (sgn (padL (encB t s)))).toList.isEmpty = false := not_empty (by rw [hsize]; omega)
        generalize strOfNums (sgn (padL (encB t s))) = S at *
        generalize hP : bl (padL (encB t s)) = P at *
        clear hP
        generalize hn : (encB t s).length / 8 + 1 = n at *
        have hn600 : n ≤ 600 := by omega
        clear hn
        refine Calls.mono hcw.out ?_
        rintro e w3 ⟨rfl, b3⟩
        have hb3 : Below w.heap.size w w3 := hb2.trans (b3.mono hb2.size)
        clear hcw b3 hb2 hsl
        go_wp2
        go_loopw [9, 10, 11] (fun v i _ wr => ∃ k : Nat, k ≤ n ∧ i = .int .i64 (8 * (k : Int)) ∧ wr.ownsRow w.heap.size 5 1 v k ((ints (pkTo (encB t s) k)).map (Value.int .u8)) ∧ Below w.heap.size w wr) (fun _ i _ _ => 8 * n - (intOf i).toNat)
        case atStart => exact ⟨0, Nat.zero_le _, rfl, World.ownsRow_nil _ _ _ _, hb3⟩
        case round =>
          obtain ⟨k, hk, rfl, hown, hbel⟩ := hrel
          have hsz := hbel.size
          by_cases hlt : k < n
          · have hcv := hid (HV.out (8 * k) wr (by omega))
            have hvb := HVB.out k
            have HPK := hid (HPS.out k)
            generalize valF P (8 * k) 8 = x at *
            have h8 : ((8 * k : Nat) : Int) = 8 * (k : Int) := by omega
            rw [h8] at hcv
            clear h8
            go_wp2_with (first
              | (go_at_call 77; refine Calls.mono hcv.out ?_; rintro e w' ⟨rfl, rfl⟩)
              | (at_builtin; refine wpList_append_own _ rfl (.tmp 35) (.tmp 38) 114 rfl w.heap.size 5 i0 (.int .u8 0) 1 1 Tryz.underlying114 hi hz0 hz1 hz2 rfl (by decide) _ _ _ rfl (hown.alloc _) ⟨_, 0, none⟩ 1 1 [.int .u8 (x : Int)] rfl rfl (cell_one_new _ _ _) (by intro u hu; simp at hu; subst hu; rfl) (by unfold maxLen; omega) (by omega) (by simp; omega) ?_; intro v' w4 hown' hgrow _))
            go_roundw
            case rel =>
              have hown4 : w4.ownsRow w.heap.size 5 1 v' (k + 1) ((ints (pkTo (encB t s) (k + 1))).map (Value.int .u8)) := by
                rw [HPK.out]; simpa [ints] using hown'
              have bel4 := (hbel.alloc hsz _).grown hgrow (by simp; omega) (own_base hown)
              first
                | exact ⟨k + 1, by omega, by go_num, hown4, bel4⟩
                | ((repeat apply Exists.intro); exact ⟨⟨k + 1, by omega, by go_num, hown4, bel4⟩, rfl⟩)
            case measure => simp [intOf]; omega
          · have HK := hid (show k = n from by omega)
            have hconv := conv_own (P := Tryz.prog) (dst := 9) Tryz.underlying114 Tryz.underlying5 Tryz.underlying9 hown
            rw [← HK.out] at HA
            go_wp2
            go_ret2
            exact ⟨ret_ans HA.out.symm, hbel⟩
end Go.Proofs.YtnconbpneimjiaaGreat

/-
  P5, P6: the walk of Lay.
-/
import Derived.Test.YtaofgdgfmdieeaaLayNum
namespace Go.Proofs.Ytaofgdgfmdieeaa
open Go.RowKit Go.PlainAid

def zeroRow : Nat → Value := layRow (fun _ => 0) (fun _ => 0) (fun _ => 0)
def tabRow (t : ByteArray) : Nat → Value := layRow (tOwn t) (tNum t) (tShr t)
theorem layRow_one (own num shr : Nat → Nat) (i : Nat) : (layRow own num shr i).oneCell' = true := by
  unfold layRow; split
  · rfl
  · split <;> rfl

set_option maxRecDepth 100000 in
set_option maxHeartbeats 800000 in
theorem lay_no (t : ByteArray) (w : World) (ht : t.size ≤ maxLen) (h : isTB t = false) :
    Calls Try.prog 40 #[.string t] w fun e w' => e = .returned (.tuple #[.agg (arrOf 384 zeroRow), .bool false]) ∧ Below w.heap.size w w' := by
  have hz := zeroV48
  have HC := hid (isTable_any t ((w.alloc (.cells zero48 61)).alloc (.cells zero48 61)) ht)
  rw [h] at HC
  clear h
  have r0 : ((w.alloc (.cells zero48 61)).alloc (.cells zero48 61)).rowIs w.heap.size 61 384 zeroRow := World.rowIs.alloc (row48 w) (.cells zero48 61)
  have r1 : ((w.alloc (.cells zero48 61)).alloc (.cells zero48 61)).rowIs (w.heap.size + 1) 61 384 zeroRow := by
    have := row48 (w.alloc (.cells zero48 61))
    rw [World.size_alloc] at this
    exact this
  go_enter Try.func40, Try.ntmps40
  go_wp2_with (first
    | (go_at_call 55; refine Calls.mono HC.out ?_; rintro e w' ⟨rfl, rfl⟩)
    | (refine wpList_load_rowIs rfl 61 (.tmp 4) rfl (w.heap.size + 1) rfl 61 384 zeroRow r1 _ Try.underlying61 rfl Try.size48 ?_)
    | (refine wpList_store_rowIs rfl 61 (.tmp 2) (.tmp 13) rfl w.heap.size rfl 61 384 zeroRow zeroRow r0 rfl Try.size48 (fun i _ => layRow_one _ _ _ i) ?_; intro w1 q1 b1 o1 s1))
  have hr := run_loadVar_rowIs (P := Try.prog) w1 w.heap.size 61 61 384 zeroRow _ q1 Try.underlying61 rfl Try.size48
  refine bodyPost_ret (v := .tuple #[.agg (arrOf 384 zeroRow), .bool false]) ?_ rfl ⟨rfl, ?_⟩
  · simp [results, Try.results40, asAddr, hr]
  · exact (((Below.refl _ _).alloc (Nat.le_refl _) _).alloc (by simp) _).trans b1

set_option maxRecDepth 100000 in
set_option maxHeartbeats 1600000 in
theorem lay_yes (t : ByteArray) (w : World) (ht : t.size ≤ maxLen) (h : isTB t = true) :
    Calls Try.prog 40 #[.string t] w fun e w' => e = .returned (.tuple #[.agg (arrOf 384 (tabRow t)), .bool true]) ∧ Below w.heap.size w w' := by
  obtain ⟨hev, hgood, htot⟩ := isTB_yes h
  have hlong : t.size ≤ 128 := by
    have := totS_ge hgood
    omega
  have HTM := hid (fun k (hk : k ≤ t.size / 2) => show totS t k ≤ 64 from htot ▸ totS_mono t hk)
  have hb := get_btn t
  have hz := zeroV48
  have HC := hid (isTable_any t ((w.alloc (.cells zero48 61)).alloc (.cells zero48 61)) ht)
  rw [h] at HC
  clear h hgood htot
  have r0 : ((w.alloc (.cells zero48 61)).alloc (.cells zero48 61)).rowIs w.heap.size 61 384 zeroRow := World.rowIs.alloc (row48 w) (.cells zero48 61)
  have r1 : Lyt ((w.alloc (.cells zero48 61)).alloc (.cells zero48 61)) (w.heap.size + 1) (fun _ => 0) (fun _ => 0) (fun _ => 0) := by
    have := row48 (w.alloc (.cells zero48 61))
    rw [World.size_alloc] at this
    exact this
  have bel0 : Below w.heap.size w ((w.alloc (.cells zero48 61)).alloc (.cells zero48 61)) := ((Below.refl _ _).alloc (Nat.le_refl _) _).alloc (by simp) _
  go_enter Try.func40, Try.ntmps40
  go_wp2_with (go_at_call 55; refine Calls.mono HC.out ?_; rintro e w' ⟨rfl, rfl⟩)
  clear HC hz
  generalize ((w.alloc (.cells zero48 61)).alloc (.cells zero48 61)) = W at *
  go_loopw [5, 6, 7, 8, 9] (fun pl i _ _ _ wr => ∃ k : Nat, 2 * k ≤ t.size ∧ i = .int .i64 (2 * (k : Int)) ∧ pl = .int .i64 ((rowTo t k).length : Int) ∧ Lyt wr (w.heap.size + 1) (ownL (rowTo t k)) (fun _ => 0) (shTab t k) ∧ Below (w.heap.size + 1) W wr) (fun _ i _ _ _ _ => t.size - (intOf i).toNat)
  case atStart => exact ⟨0, Nat.zero_le _, rfl, rfl, r1.congr (fun s _ => by simp [ownL, rowTo]) (fun _ _ => rfl) (fun _ _ => rfl), Below.refl _ _⟩
  case round =>
    obtain ⟨k, hk, rfl, rfl, hl, hbel⟩ := hrel
    by_cases hlt : 2 * k + 1 < t.size
    · have b1 := btn_lt t (2 * k)
      have b2 := btn_lt t (2 * k + 1)
      have c1 := hl.shrC b1
      have f1 := World.rowIs.frozen hl (128 + btn t (2 * k))
      have HR := hid (show rowTo t (k + 1) = rowTo t k ++ List.replicate (btn t (2 * k + 1)) (btn t (2 * k)) from rfl)
      have hle : (rowTo t k).length + btn t (2 * k + 1) ≤ 64 := by
        have := HTM.out (k + 1) (by omega)
        rw [totS] at this
        rw [rowTo_len]; omega
      have hl2 : Lyt _ (w.heap.size + 1) (ownL (rowTo t k)) (fun _ => 0) (shTab t (k + 1)) := (hl.setShr b1 (btn t (2 * k + 1))).congr (fun _ _ => rfl) (fun _ _ => rfl) (fun v _ => (shTab_step t k v).symm)
      have HL2 := hid hl2
      have bel2 := hid (hbel.setCell (p := ⟨w.heap.size + 1, 128 + btn t (2 * k), none⟩) (Nat.le_refl _) (.int .i64 (btn t (2 * k + 1) : Int)))
      clear hl hl2 hbel
      go_wp2_with fail
      go_loopw [5, 9] (fun pl j wr => ∃ (i : Nat) (ps : List Nat), i ≤ btn t (2 * k + 1) ∧ ps = rowTo t k ++ List.replicate i (btn t (2 * k)) ∧ j = .int .i64 i ∧ pl = .int .i64 (ps.length : Int) ∧ Lyt wr (w.heap.size + 1) (ownL ps) (fun _ => 0) (shTab t (k + 1)) ∧ Below (w.heap.size + 1) W wr) (fun _ j _ => 256 - (intOf j).toNat)
      case atStart => exact ⟨0, rowTo t k, Nat.zero_le _, by simp, rfl, rfl, HL2.out, bel2.out⟩
      case round =>
        obtain ⟨i, ps, hi, hps, rfl, rfl, hl3, bel3⟩ := hrel
        have hpl : ps.length = (rowTo t k).length + i := by rw [hps]; simp
        have HPS := hid hps
        have hple : ps.length ≤ 64 := by omega
        by_cases hj : i < btn t (2 * k + 1)
        · have hpl2 : ps.length < 64 := by omega
          have c4 := hl3.ownC (s := 43 * ps.length % 64) (by omega)
          have f4 := World.rowIs.frozen hl3 (43 * ps.length % 64)
          have HO := hid (fun s (hs : s < 64) => ownL_push ps (btn t (2 * k)) s hs hpl2)
          have HPL := hid (show (ps ++ [btn t (2 * k)]).length = ps.length + 1 from by simp)
          have HQ := hid (show ps ++ [btn t (2 * k)] = rowTo t k ++ List.replicate (i + 1) (btn t (2 * k)) from by rw [hps, List.append_assoc, List.replicate_succ'])
          clear hps hpl
          have hm : 43 * ps.length % 64 < 64 := by omega
          generalize hpn : ps.length = p at *
          have HPN := hid hpn
          clear hpn
          go_wp2
          go_roundw
          case rel =>
            refine ⟨i + 1, ps ++ [btn t (2 * k)], by omega, HQ.out, by go_num, by rw [HPL.out]; go_num, ?_, bel3.setCell (Nat.le_refl _) _⟩
            exact (hl3.setOwn (s := 43 * p % 64) hm (btn t (2 * k))).congr (fun s hs => HO.out s hs) (fun _ _ => rfl) (fun _ _ => rfl)
          case measure => simp [intOf]; omega
        · have HI := hid (show i = btn t (2 * k + 1) from by omega)
          have HPR := hid (show ps = rowTo t (k + 1) from by rw [HR.out, hps, HI.out])
          clear hps hpl
          go_wp2
          go_roundw
          case rel =>
            rw [HPR.out] at hl3 ⊢
            exact ⟨k + 1, by omega, by go_num, rfl, hl3, bel3⟩
          case measure => simp [intOf]; omega
    · have HK := hid (show k = t.size / 2 from by omega)
      rw [HK.out] at hl
      have hnum := hid (numberSlots_any (w.heap.size + 1) _ _ _ wr hl (tOwn_lt t) (fun v => shTab_le v))
      clear hl
      go_wp2_with fail
      refine Calls.mono hnum.out ?_
      rintro e w3 ⟨rfl, hl3, bel3⟩
      have hq : w3.rowIs (w.heap.size + 1) 61 384 (tabRow t) := hl3
      have bel4 : Below (w.heap.size + 1) W w3 := hbel.trans bel3
      have hq0 : w3.rowIs w.heap.size 61 384 zeroRow := World.rowIs.of_block r0 (bel4.block _ (by omega))
      clear hl3 bel3 hnum r0 r1 hbel HTM hb
      go_wp2_with (first
        | (refine wpList_load_rowIs rfl 61 (.tmp 4) rfl (w.heap.size + 1) rfl 61 384 (tabRow t) hq _ Try.underlying61 rfl Try.size48 ?_)
        | (refine wpList_store_rowIs rfl 61 (.tmp 2) (.tmp 47) rfl w.heap.size rfl 61 384 zeroRow (tabRow t) hq0 rfl Try.size48 (fun i _ => layRow_one _ _ _ i) ?_; intro w5 q5 b5 o5 s5))
      have hr := run_loadVar_rowIs (P := Try.prog) w5 w.heap.size 61 61 384 (tabRow t) _ q5 Try.underlying61 rfl Try.size48
      refine bodyPost_ret (v := .tuple #[.agg (arrOf 384 (tabRow t)), .bool true]) ?_ rfl ⟨rfl, ?_⟩
      · simp [results, Try.results40, asAddr, hr]
      · exact (bel0.trans (bel4.mono (by omega))).trans b5
end Go.Proofs.Ytaofgdgfmdieeaa

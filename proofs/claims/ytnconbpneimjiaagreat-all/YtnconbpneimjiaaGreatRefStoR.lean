/-
  P13: the walks of the document's New and Register.
-/
import Derived.Test.YtnconbpneimjiaaGreatRefStoW
namespace Go.Proofs.YtnconbpneimjiaaGreat
open Go.RowKit Go.PlainAid

theorem RSt.below {w w' : World} {b B : Nat} {v : Value} {room : Int} {l : List Ev} (h : RSt w b B v room l) (hb : Below w.heap.size w w') : RSt w' b B v room l := by
  refine ⟨World.rowIs.of_block h.row (hb.block b h.lt), ?_⟩
  have hl := h.log.lt
  refine ⟨h.log.1, ?_⟩
  rcases h.log.2 with h2 | ⟨g, cap, cur, rfl, hg, hgb, r⟩
  · exact .inl h2
  · exact .inr ⟨g, cap, cur, rfl, hg, by rw [hb.block g (hl g rfl).2]; exact hgb, r⟩
theorem Lies.mono {w w1 : World} {v v' : Value} (h : Lies w1 v v') (hs : w.heap.size ≤ w1.heap.size) : Lies w v v' := by
  rcases h with q | ⟨g, q1, q2⟩
  · exact .inl q
  · exact .inr ⟨g, q1, by omega⟩
theorem ret_ii {a b c d : Int} (h1 : a = b) (h2 : c = d) : Ending.returned (.tuple #[.int .i64 a, .int .i64 c]) = .returned (.tuple #[.int .i64 b, .int .i64 d]) := by rw [h1, h2]

set_option maxRecDepth 100000 in
set_option maxHeartbeats 1600000 in
theorem stoRegister_any (b B : Nat) (v : Value) (room : Int) (l : List Ev) (f : ByteArray) (w : World) (h : RSt w b B v room l) (hb : b < B) (hB : B ≤ w.heap.size) (hl : l.length < 2900000000000) (hf : f.size ≤ maxLen) :
    Calls Tryz.prog 22 #[.pointer (some ⟨b, 0, none⟩), .string f] w fun e w' => e = .returned (.tuple #[.int .i64 (rgAns l room f).1, .int .i64 (rgAns l room f).2.1]) ∧ ∃ v', RSt w' b B v' room (rgAns l room f).2.2 ∧ Chg b v w w' ∧ Lies w v v' := by
  obtain ⟨i1, gi, gz0, gz1, gz2⟩ := info_parts Tryz.infoEvent
  have HP := hid (refParse_any f w hf)
  by_cases hp : pOk f
  · have hk : pOkB f = true := (pOkB_iff f).2 hp
    rw [pAns_yes hp] at HP
    simp only [parV] at HP
    have heq := emp_beq (fileOf l (num f 3 2 : Int))
    have HR := hid (show rgAns l room f = if fileOf l (num f 3 2 : Int) = ⟨#[]⟩ ∧ room ≤ (idsOf l : Int) then (0, 11, l) else ((num f 3 2 : Int), 0, l ++ [⟨1, (num f 3 2 : Int), ⟨#[]⟩, f⟩]) from by unfold rgAns; rw [if_neg (by rw [hk]; simp)])
    have HFI := hid (fun w1 (h1 : RSt w1 b B v room l) => stoFile_any b B v room l (num f 3 2 : Int) w1 h1)
    have HID := hid (fun w1 (h1 : RSt w1 b B v room l) => stoIds_any b B v room l w1 h1)
    have hil : idsOf l ≤ l.length := idsT_le l l.length
    generalize f.extract 6 (pT f) = T at *
    generalize f.extract (pT f + 2) (pE f) = C at *
    generalize (num f 3 2 : Int) = I at *
    generalize fileOf l I = F at *
    generalize idsOf l = N at *
    clear hp hk
    by_cases h1 : F = ⟨#[]⟩
    · have h1' : (F.toList == []) = true := by rw [heq]; simp [h1]
      by_cases h2 : room ≤ (N : Int)
      · rw [if_pos ⟨h1, h2⟩] at HR
        have h2' : decide (room ≤ (N : Int)) = true := by simp; omega
        rw [HR.out]
        clear h1 heq
        go_enter Tryz.func22, Tryz.ntmps22
        go_wp2_with fail
        refine Calls.mono HP.out ?_
        rintro e w1 ⟨rfl, b1⟩
        have H1 := h.below b1
        go_wp2_with fail
        refine Calls.mono (HFI.out _ H1) ?_
        rintro e w2 ⟨rfl, k2⟩
        rw [k2]
        clear k2 w2
        go_wp2_with fail
        refine Calls.mono (HID.out _ H1) ?_
        rintro e w2 ⟨rfl, nd, k2⟩
        rw [k2]
        clear k2 w2
        have H2 := H1.drew nd
        have c0 := H2.c0
        have c1 := H2.c1
        have hs1 := b1.size
        have hs2 : w.heap.size ≤ (w1.drewN nd).heap.size := hs1
        have hB2 : B ≤ (w1.drewN nd).heap.size := Nat.le_trans hB hs2
        skip
        go_wp2
        go_ret2
        exact ⟨rfl, v, H2, (Chg.ofBelow b1).trans (Chg.drew _ _ _ _), .inl rfl⟩
      · rw [if_neg (fun q => h2 q.2)] at HR
        have h2' : decide (room ≤ (N : Int)) = false := by simp; omega
        rw [HR.out]
        clear h1 heq
        go_enter Tryz.func22, Tryz.ntmps22
        go_wp2_with fail
        refine Calls.mono HP.out ?_
        rintro e w1 ⟨rfl, b1⟩
        have H1 := h.below b1
        go_wp2_with fail
        refine Calls.mono (HFI.out _ H1) ?_
        rintro e w2 ⟨rfl, k2⟩
        rw [k2]
        clear k2 w2
        go_wp2_with fail
        refine Calls.mono (HID.out _ H1) ?_
        rintro e w2 ⟨rfl, nd, k2⟩
        rw [k2]
        clear k2 w2
        have H2 := H1.drew nd
        have c0 := H2.c0
        have c1 := H2.c1
        have hs1 := b1.size
        have hs2 : w.heap.size ≤ (w1.drewN nd).heap.size := hs1
        have hB2 : B ≤ (w1.drewN nd).heap.size := Nat.le_trans hB hs2
        skip
        go_wp2_with (at_builtin; refine wpList_append_own_at _ rfl (.tmp 40) (.tmp 44) 49 rfl B 95 i1 (.agg #[.int .i64 0, .int .i64 0, .string ⟨#[]⟩, .string ⟨#[]⟩]) 4 48 Tryz.underlying49 gi gz0 gz1 gz2 rfl (by decide) _ _ _ rfl (H2.log.alloc _) ⟨_, 0, none⟩ 1 1 [.int .i64 1, .int .i64 I, .string ⟨#[]⟩, .string f] rfl rfl (cell_four_new _ _ _ _ _ _) (by intro u hu; simp at hu; rcases hu with rfl | rfl | rfl | rfl <;> rfl) (by unfold maxLen; omega) (by omega) (by simp; omega) ?_; intro v' w4 hown' hgrow _ hat; have m4 := hid (H2.mid hb hgrow); have k4 := World.rowIs.cell m4.out (i := 1) (by omega); have f4 := World.rowIs.frozen m4.out 1; have R4 := hid (H2.push (e := ⟨1, I, ⟨#[]⟩, f⟩) hb hgrow hown'); have C4 := hid (chg_push (b := b) (v' := v') hgrow); have L4 := hid (lies_at hat); obtain ⟨g4, cap4, rfl⟩ := own_frm4 hown' (by omega); clear hown' hat)
        go_ret2
        exact ⟨rfl, _, R4.out, ((Chg.ofBelow b1).trans (Chg.drew _ _ _ _)).trans C4.out, L4.out.mono hs2⟩
    · have h1' : (F.toList == []) = false := by rw [heq]; simp [h1]
      rw [if_neg (fun q => h1 q.1)] at HR
      rw [HR.out]
      clear h1 heq
      go_enter Tryz.func22, Tryz.ntmps22
      go_wp2_with fail
      refine Calls.mono HP.out ?_
      rintro e w1 ⟨rfl, b1⟩
      have H1 := h.below b1
      go_wp2_with fail
      refine Calls.mono (HFI.out _ H1) ?_
      rintro e w2 ⟨rfl, k2⟩
      rw [k2]
      clear k2 w2
      go_wp2_with fail
      refine Calls.mono (HID.out _ H1) ?_
      rintro e w2 ⟨rfl, nd, k2⟩
      rw [k2]
      clear k2 w2
      have H2 := H1.drew nd
      have c0 := H2.c0
      have c1 := H2.c1
      have hs1 := b1.size
      have hs2 : w.heap.size ≤ (w1.drewN nd).heap.size := hs1
      have hB2 : B ≤ (w1.drewN nd).heap.size := Nat.le_trans hB hs2
      skip
      go_wp2_with (at_builtin; refine wpList_append_own_at _ rfl (.tmp 40) (.tmp 44) 49 rfl B 95 i1 (.agg #[.int .i64 0, .int .i64 0, .string ⟨#[]⟩, .string ⟨#[]⟩]) 4 48 Tryz.underlying49 gi gz0 gz1 gz2 rfl (by decide) _ _ _ rfl (H2.log.alloc _) ⟨_, 0, none⟩ 1 1 [.int .i64 1, .int .i64 I, .string ⟨#[]⟩, .string f] rfl rfl (cell_four_new _ _ _ _ _ _) (by intro u hu; simp at hu; rcases hu with rfl | rfl | rfl | rfl <;> rfl) (by unfold maxLen; omega) (by omega) (by simp; omega) ?_; intro v' w4 hown' hgrow _ hat; have m4 := hid (H2.mid hb hgrow); have k4 := World.rowIs.cell m4.out (i := 1) (by omega); have f4 := World.rowIs.frozen m4.out 1; have R4 := hid (H2.push (e := ⟨1, I, ⟨#[]⟩, f⟩) hb hgrow hown'); have C4 := hid (chg_push (b := b) (v' := v') hgrow); have L4 := hid (lies_at hat); obtain ⟨g4, cap4, rfl⟩ := own_frm4 hown' (by omega); clear hown' hat)
      go_ret2
      exact ⟨rfl, _, R4.out, ((Chg.ofBelow b1).trans (Chg.drew _ _ _ _)).trans C4.out, L4.out.mono hs2⟩
  · have hk : pOkB f = false := by
      cases hq : pOkB f
      · rfl
      · exact absurd ((pOkB_iff f).1 hq) hp
    rw [pAns_no hp] at HP
    simp only [parV] at HP
    have HR := hid (show rgAns l room f = (0, 6, l) from by unfold rgAns; rw [if_pos hk])
    rw [HR.out]
    clear hp hk
    go_enter Tryz.func22, Tryz.ntmps22
    go_wp2_with fail
    refine Calls.mono HP.out ?_
    rintro e w1 ⟨rfl, b1⟩
    go_wp2
    go_ret2
    exact ⟨rfl, v, h.below b1, Chg.ofBelow b1, .inl rfl⟩
end Go.Proofs.YtnconbpneimjiaaGreat

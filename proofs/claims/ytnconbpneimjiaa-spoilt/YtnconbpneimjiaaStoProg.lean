/-
  P14, P15: the program's store: Put, Get.
-/
import Derived.Test.YtnconbpneimjiaaStoReg
namespace Go.Proofs.Ytnconbpneimjiaa
open Go.RowKit Go.PlainAid

theorem putAns_key {l : List Ev} {ky r : ByteArray} {id : Int} (h : ky.size < 1 ∨ 8 < ky.size) : putAns l ky r id = (0, 12, l) := by unfold putAns; rw [if_pos h]
theorem putAns_long {l : List Ev} {ky r : ByteArray} {id : Int} (h : ¬ (ky.size < 1 ∨ 8 < ky.size)) (h2 : 500 < r.size) : putAns l ky r id = (0, 1, l) := by unfold putAns; rw [if_neg h, if_pos h2]
theorem putAns_unk {l : List Ev} {ky r : ByteArray} {id : Int} (h : ¬ (ky.size < 1 ∨ 8 < ky.size)) (h2 : ¬ 500 < r.size) (h3 : fileOf l id = ⟨#[]⟩) : putAns l ky r id = (0, 8, l) := by unfold putAns; rw [if_neg h, if_neg h2, if_pos h3]
theorem putAns_ok {l : List Ev} {ky r : ByteArray} {id : Int} (h : ¬ (ky.size < 1 ∨ 8 < ky.size)) (h2 : ¬ 500 < r.size) (h3 : fileOf l id ≠ ⟨#[]⟩) (h4 : pOk (fileOf l id)) : putAns l ky r id = (((enFrm (fileOf l id) r).size : Int), 0, l ++ [⟨3, 0, ky, enFrm (fileOf l id) r⟩]) := by
  unfold putAns; rw [if_neg h, if_neg h2, if_neg h3, enAns_ok h2 h4]
theorem foV_u {f : ByteArray} (h : f = ⟨#[]⟩) : foV f = .tuple #[fileV 0 ⟨#[]⟩ ⟨#[]⟩ 0, .bool false] := by unfold foV; rw [if_pos h]
theorem foV_b {f : ByteArray} (h : f ≠ ⟨#[]⟩) : foV f = .tuple #[fileV (num f 3 2 : Int) (pAns f).2.1 (pAns f).2.2.1 (wSum (f.extract 0 (pE f)) : Nat), .bool true] := by unfold foV; rw [if_neg h]
set_option maxRecDepth 100000 in
set_option maxHeartbeats 1600000 in
theorem pg_put (p : Nat) (F : Nat → Prop) (room : Int) (l : List Ev) (ky r : ByteArray) (id : Int) (w : World) (h : PS w p F room l) (hl : l.length < 1800000000000) (hL : LogOk l) (hk : ky.size ≤ maxLen) (hr : r.size ≤ maxLen) :
    Calls Try.prog 37 #[.pointer (some ⟨p, 0, none⟩), .string ky, .string r, .int .i64 id] w fun e w' => e = .returned (.tuple #[.int .i64 (putAns l ky r id).1, .int .i64 (putAns l ky r id).2.1]) ∧ ∃ F', PS w' p F' room (putAns l ky r id).2.2 ∧ ChgF F w w' ∧ GrowF w F F' := by
  have HPS := hid h
  obtain ⟨B, vb, vs, fl, m, sp, n, h1, hB, r1, r2, h3, h5, h4⟩ := h
  have hn := h5.len
  have hrm := h3.rm
  have hp := h1.lt
  have HK := hid (isKey_any ky w hk)
  unfold maxLen at hr
  by_cases c : ky.size < 1 ∨ 8 < ky.size
  · have HA := hid (putAns_key (l := l) (r := r) (id := id) c)
    rw [decide_eq_false (show ¬ (1 ≤ ky.size ∧ ky.size ≤ 8) from by omega)] at HK
    rw [HA.out]
    clear c
    go_enter Try.func37, Try.ntmps37
    go_wp2_with fail
    refine Calls.mono HK.out ?_
    rintro e w1 ⟨rfl, k1⟩
    rw [k1]
    clear k1 w1
    go_wp2
    go_ret2
    exact ⟨rfl, F, HPS.out, ChgF.refl _ _, GrowF.refl _ _⟩
  · rw [decide_eq_true (show (1 ≤ ky.size ∧ ky.size ≤ 8) from by omega)] at HK
    by_cases c2 : 500 < r.size
    · have HA := hid (putAns_long (l := l) (id := id) c c2)
      have c2' : (500 : Int) < (r.size : Int) := by omega
      rw [HA.out]
      clear c
      go_enter Try.func37, Try.ntmps37
      go_wp2_with fail
      refine Calls.mono HK.out ?_
      rintro e w1 ⟨rfl, k1⟩
      rw [k1]
      clear k1 w1
      go_wp2
      go_ret2
      exact ⟨rfl, F, HPS.out, ChgF.refl _ _, GrowF.refl _ _⟩
    · have c2' : ¬ (500 : Int) < (r.size : Int) := by omega
      have HO := hid (bof_any p B room vb vs fl m sp n l id w h1 (by omega) h3)
      by_cases c3 : fileOf l id = ⟨#[]⟩
      · have HA := hid (putAns_unk c c2 c3)
        rw [HA.out]
        rw [foV_u c3] at HO
        clear c c3
        go_enter Try.func37, Try.ntmps37
        go_wp2_with fail
        refine Calls.mono HK.out ?_
        rintro e w1 ⟨rfl, k1⟩
        rw [k1]
        clear k1 w1
        go_wp2_with fail
        refine Calls.mono HO.out ?_
        rintro e w1 ⟨rfl, b1⟩
        have hq := fRow_new w1
        go_wp2_with (refine wpList_store_rowIs rfl 48 (.tmp 10) (.tmp 25) rfl w1.heap.size rfl 48 4 (fRow 0 ⟨#[]⟩ ⟨#[]⟩ 0) (fRow 0 ⟨#[]⟩ ⟨#[]⟩ 0) hq rfl sizeFile (fun i _ => fRow_one _ _ _ _ i) ?_; intro w5 q5 b5 o5 s5)
        go_ret2
        have hB5 := (b1.alloc b1.size (.cells #[.int .i64 0, .string ⟨#[]⟩, .string ⟨#[]⟩, .int .i64 0] 48)).trans (b5.mono b1.size)
        exact ⟨rfl, F, HPS.out.kept hB5.size (fun k hk => hB5.block k (HPS.out.lt k hk)), ChgF.ofBelow hB5, GrowF.refl _ _⟩
      · have hok := (hL.bound id c3).1
        have HA := hid (putAns_ok c c2 c3 hok)
        rw [HA.out]
        rw [foV_b c3] at HO
        obtain ⟨hcz, hf13⟩ := pOk_con hok
        have htz : (pAns (fileOf l id)).2.1.size ≤ maxLen := (par_cases (fileOf l id)).elim (fun q => by rw [pAns_yes hok] at q; simp at q) (fun q => q.2.2.2.1)
        have hnm := num_lt (fileOf l id) 3 2
        have hws := wSum_lt ((fileOf l id).extract 0 (pE (fileOf l id)))
        have HW := hid (fun b w h => fwrite_any (num (fileOf l id) 3 2) (wSum ((fileOf l id).extract 0 (pE (fileOf l id)))) b (pAns (fileOf l id)).2.1 (pAns (fileOf l id)).2.2.1 r w h (by omega) hws htz hcz (by omega))
        rw [frW_is hok] at HW
        have hez := (dec_enc_frm hok (show r.size ≤ 500 from by omega)).2.1
        have HLY := hid (fun w6 (hM : PMm w6 p B room vb vs fl m sp n) (hb : B ≤ w6.heap.size) => lay_any p B room vb vs fl m sp n l ky (enFrm (fileOf l id) r) w6 hM h5 hk hb (by omega))
        clear c c3 HA hok hcz hf13 htz
        generalize enFrm (fileOf l id) r = FR at *
        generalize (pAns (fileOf l id)).2.1 = T at *
        generalize (pAns (fileOf l id)).2.2.1 = C at *
        generalize wSum ((fileOf l id).extract 0 (pE (fileOf l id))) = S at *
        generalize num (fileOf l id) 3 2 = N at *
        go_enter Try.func37, Try.ntmps37
        go_wp2_with fail
        refine Calls.mono HK.out ?_
        rintro e w1 ⟨rfl, k1⟩
        rw [k1]
        clear k1 w1
        go_wp2_with fail
        refine Calls.mono HO.out ?_
        rintro e w1 ⟨rfl, b1⟩
        have hq := fRow_new w1
        go_wp2_with (refine wpList_store_rowIs rfl 48 (.tmp 10) (.tmp 25) rfl w1.heap.size rfl 48 4 (fRow 0 ⟨#[]⟩ ⟨#[]⟩ 0) (fRow (N : Int) T C (S : Int)) hq rfl sizeFile (fun i _ => fRow_one _ _ _ _ i) ?_; intro w5 q5 b5 o5 s5)
        have hFL := hid (FlAt.of_row q5)
        have hB5 := hid ((b1.alloc b1.size (.cells #[.int .i64 0, .string ⟨#[]⟩, .string ⟨#[]⟩, .int .i64 0] 48)).trans (b5.mono b1.size))
        clear q5 o5 s5 hq
        refine Calls.mono (HW.out _ _ hFL.out) ?_
        rintro e w6 ⟨rfl, b6⟩
        have hB6 := hid (hB5.out.trans (b6.mono hB5.out.size))
        have hM6 := hid (h1.below hB6.out)
        go_wp2_with fail
        refine Calls.mono (HLY.out w6 hM6.out (Nat.le_trans hB hB6.out.size)) ?_
        rintro e w7 ⟨rfl, vs', sp', n', q1, q2, q3, q4⟩
        go_wp2
        go_ret2
        exact ⟨rfl, ps_toS h4 hB r1 r2 q1 ((ChgF.ofBelow hB6.out).trans q3 (fun _ _ q => q)) (fun g hg => (q4 g hg).elim .inl (fun q => .inr (Nat.le_trans hB6.out.size q))) (h3.same _ rfl) q2⟩
theorem far4 {w : World} {b c i : Nat} {x : Option Value} (u0 u1 u2 u3 : Value) (h : b ≠ c) (hx : w.cell? ⟨c, i, none⟩ = x) : ((((w.setCell ⟨b, 0, none⟩ u0).setCell ⟨b, 1, none⟩ u1).setCell ⟨b, 2, none⟩ u2).setCell ⟨b, 3, none⟩ u3).cell? ⟨c, i, none⟩ = x := by
  rw [World.cell?_setCell_far _ _ _ _ (by exact h), World.cell?_setCell_far _ _ _ _ (by exact h), World.cell?_setCell_far _ _ _ _ (by exact h), World.cell?_setCell_far _ _ _ _ (by exact h)]
  exact hx
theorem set4_row {w : World} {b : Nat} {f0 : Nat → Value} (i : Int) (t c : ByteArray) (s : Int) (h : w.rowIs b 48 4 f0) : ((((w.setCell ⟨b, 0, none⟩ (.int .i64 i)).setCell ⟨b, 1, none⟩ (.string t)).setCell ⟨b, 2, none⟩ (.string c)).setCell ⟨b, 3, none⟩ (.int .i64 s)).rowIs b 48 4 (fRow i t c s) :=
  World.rowIs.congr (World.rowIs.set (World.rowIs.set (World.rowIs.set (World.rowIs.set h 0 (.int .i64 i)) 1 (.string t)) 2 (.string c)) 3 (.int .i64 s)) (fun j hj => by match j, hj with | 0, _ => rfl | 1, _ => rfl | 2, _ => rfl | 3, _ => rfl)
theorem set4_block {w : World} {b k : Nat} (u0 u1 u2 u3 : Value) (h : k ≠ b) : ((((w.setCell ⟨b, 0, none⟩ u0).setCell ⟨b, 1, none⟩ u1).setCell ⟨b, 2, none⟩ u2).setCell ⟨b, 3, none⟩ u3).heap[k]? = w.heap[k]? := by
  rw [Below.heap_setCell _ _ _ _ (by exact h), Below.heap_setCell _ _ _ _ (by exact h), Below.heap_setCell _ _ _ _ (by exact h), Below.heap_setCell _ _ _ _ (by exact h)]
theorem set4_below {w w' : World} {B b : Nat} (u0 u1 u2 u3 : Value) (h : Below B w w') (hb : B ≤ b) : Below B w ((((w'.setCell ⟨b, 0, none⟩ u0).setCell ⟨b, 1, none⟩ u1).setCell ⟨b, 2, none⟩ u2).setCell ⟨b, 3, none⟩ u3) :=
  (((h.setCell (p := ⟨b, 0, none⟩) hb u0).setCell (p := ⟨b, 1, none⟩) hb u1).setCell (p := ⟨b, 2, none⟩) hb u2).setCell (p := ⟨b, 3, none⟩) hb u3
theorem fRow_lay (w : World) (i : Int) (t c : ByteArray) (s : Int) : (w.alloc (.cells #[.int .i64 i, .string t, .string c, .int .i64 s] 48)).rowIs w.heap.size 48 4 (fRow i t c s) :=
  World.rowIs_alloc w #[.int .i64 i, .string t, .string c, .int .i64 s] 48 (fRow i t c s) (fun i hi => by
    have hi' : i < 4 := hi
    match i, hi' with
    | 0, _ => rfl
    | 1, _ => rfl
    | 2, _ => rfl
    | 3, _ => rfl)
theorem HdAt.kept {w w' : World} {b : Nat} {p : Bool} {i s z m : Int} (h : HdAt w b p i s z m) (hs : w.heap.size ≤ w'.heap.size) (hb : w'.heap[b]? = w.heap[b]?) : HdAt w' b p i s z m where
  lt := Nat.lt_of_lt_of_le h.lt hs
  c0 := (World.cell?_of_block hb).trans h.c0
  c1 := (World.cell?_of_block hb).trans h.c1
  c2 := (World.cell?_of_block hb).trans h.c2
  c3 := (World.cell?_of_block hb).trans h.c3
  c4 := (World.cell?_of_block hb).trans h.c4
theorem bel_dr {w w' : World} (b : Below w.drew.heap.size w.drew w') : Below w.heap.size w w' := ⟨b.os, b.tape, b.output, b.size, b.block⟩
theorem fnew_row {w7 w8 : World} (b8 : Below (w7.alloc (.cells #[.int .i64 0, .string ⟨#[]⟩, .string ⟨#[]⟩, .int .i64 0] 48)).drew.heap.size (w7.alloc (.cells #[.int .i64 0, .string ⟨#[]⟩, .string ⟨#[]⟩, .int .i64 0] 48)).drew w8) : w8.rowIs w7.heap.size 48 4 (fRow 0 ⟨#[]⟩ ⟨#[]⟩ 0) :=
  World.rowIs.of_block (fRow_new w7) (b8.block w7.heap.size (by simp))
set_option maxRecDepth 100000 in
set_option maxHeartbeats 3200000 in
theorem pg_get (p : Nat) (F : Nat → Prop) (room : Int) (l : List Ev) (ky : ByteArray) (w : World) (h : PS w p F room l) (hL : LogOk l) (hk : ky.size ≤ maxLen) :
    Calls Try.prog 24 #[.pointer (some ⟨p, 0, none⟩), .string ky] w fun e w' => e = .returned (.tuple #[.string (getAns l ky).1, .int .i64 (getAns l ky).2]) ∧ Below w.heap.size w w' := by
  obtain ⟨B, vb, vs, fl, m, sp, n, h1, hB, r1, r2, h3, h5, h4⟩ := h
  have hrm := h3.rm
  have hp := h1.lt
  have HLK := hid (look_any p B room vb vs fl m sp n l ky w h1 h5 hk)
  have HA := hid (show getAns l ky = match frmOf l ky with
    | none => ((⟨#[]⟩, 12) : ByteArray × Int)
    | some fr => if hdB fr = false then (⟨#[]⟩, 7) else if fileOf l (num fr 2 2 : Int) = ⟨#[]⟩ then (⟨#[]⟩, 8) else dcAns (fileOf l (num fr 2 2 : Int)) fr from rfl)
  have HFZ := hid (fun fr => hL.frm ky fr)
  generalize getAns l ky = A at *
  generalize frmOf l ky = O at *
  cases O with
  | none =>
    simp only [lkV] at HLK
    rw [HA.out]
    clear HA
    go_enter Try.func24, Try.ntmps24
    go_wp2_with fail
    refine Calls.mono HLK.out ?_
    rintro e w1 ⟨rfl, b1⟩
    go_wp2
    go_ret2
    exact ⟨rfl, b1⟩
  | some g =>
    have hgz := HFZ.out g rfl
    simp only [lkV] at HLK
    simp only at HA
    by_cases hH : hdB g = false
    · rw [if_pos hH] at HA
      rw [HA.out]
      have HH := hid (fun w => rhead_no g w (by omega) hH)
      clear HA hH
      go_enter Try.func24, Try.ntmps24
      go_wp2_with fail
      refine Calls.mono HLK.out ?_
      rintro e w1 ⟨rfl, b1⟩
      go_wp2_with fail
      refine Calls.mono (HH.out _) ?_
      rintro e w6 ⟨rfl, b6⟩
      have hq6 := hRow_lay w6 false 0 0 0 0
      have hB6 := hid (b1.trans (b6.mono b1.size))
      go_wp2_with (refine wpList_store_rowIs rfl 82 (.tmp 8) (.tmp 25) rfl w6.heap.size rfl 82 5 (hRow false 0 0 0 0) (hRow false 0 0 0 0) hq6 rfl sizeHead (fun i _ => hRow_one _ _ _ _ _ i) ?_; intro w7 q7 b7 o7 s7)
      go_ret2
      exact ⟨rfl, (hB6.out.alloc hB6.out.size _).trans (b7.mono hB6.out.size)⟩
    · rw [if_neg hH] at HA
      have hH1 : hdB g = true := by cases hq : hdB g <;> simp_all
      have HH := hid (fun w => rhead_yes g w (by omega) hH1)
      have l2 := num_lt g 2 2
      have l4 := num_lt g 4 4
      have l10 := num_lt g 10 4
      have HO := hid (fun w6 (hM : PMm w6 p B room vb vs fl m sp n) => bof_any p B room vb vs fl m sp n l (num g 2 2 : Int) w6 hM (by omega) h3)
      clear hH
      by_cases c3 : fileOf l (num g 2 2 : Int) = ⟨#[]⟩
      · rw [if_pos c3] at HA
        rw [HA.out]
        rw [foV_u c3] at HO
        simp only [fileV] at HO
        clear HA c3 hH1
        generalize decide (btn g 1 = 1) = P at *
        generalize num g 2 2 = N2 at *
        generalize num g 4 4 = N4 at *
        generalize num g 8 2 = N8 at *
        generalize num g 10 4 = N10 at *
        go_enter Try.func24, Try.ntmps24
        go_wp2_with fail
        refine Calls.mono HLK.out ?_
        rintro e w1 ⟨rfl, b1⟩
        go_wp2_with fail
        refine Calls.mono (HH.out _) ?_
        rintro e w6 ⟨rfl, b6⟩
        have hq6 := hRow_lay w6 false 0 0 0 0
        have hB6 := hid (b1.trans (b6.mono b1.size))
        have H1 := hid h1
        clear h1 h3 h5 h4 HLK HH hL HFZ
        go_wp2_with (first
          | (refine wpList_store_rowIs rfl 82 (.tmp 8) (.tmp 25) rfl w6.heap.size rfl 82 5 (hRow false 0 0 0 0) (hRow P (N2 : Int) (N4 : Int) (N8 : Int) (N10 : Int)) hq6 rfl sizeHead (fun i _ => hRow_one _ _ _ _ _ i) ?_
             intro w7 q7 b7 o7 s7
             have hHD := hid (HdAt.of_row q7)
             have hB7 := hid ((hB6.out.alloc hB6.out.size (.cells #[.bool false, .int .i64 0, .int .i64 0, .int .i64 0, .int .i64 0] 82)).trans (b7.mono hB6.out.size))
             have hM7 := hid (H1.out.below hB7.out)
             have c1 := hHD.out.c1
             have lh := hHD.out.lt
             have nne := World.new_ne w7 ⟨w6.heap.size, 1, none⟩ c1
             have lne : w6.heap.size ≠ w7.heap.size := by omega
             have c1a := hid (fun o => (World.cell?_of_block (a := ⟨w6.heap.size, 1, none⟩) (Below.heap_alloc w7 o _ lh)).trans c1)
             clear q7 b7 o7 s7))
        go_region_held3 (fun w' => w'.cell? ⟨w6.heap.size, 1, none⟩ = some (.int .i64 (N2 : Int)))
          (first | go_keep | assumption | (refine far4 _ _ _ _ ?_ ?_ <;> assumption))
          (first | (go_at_call 40; refine (HO.out _ (by first | exact ⟨hM7.out.row, hM7.out.lo, hM7.out.bd, hM7.out.sh⟩ | exact ⟨(hM7.out.alloc _).row, hM7.out.lo, (hM7.out.alloc _).bd, (hM7.out.alloc _).sh⟩)).mono ?_; rintro e w8 ⟨rfl, b8⟩; have j1 : w8.cell? ⟨w6.heap.size, 1, none⟩ = some (.int .i64 (N2 : Int)) := (b8.cell (p := ⟨w6.heap.size, 1, none⟩) (Nat.lt_of_lt_of_le lh (by simp))).trans (by first | exact c1 | exact c1a.out _); (first | (have zr := fnew_row b8; have z0 := (FlAt.of_row zr).c0; have z1 := (FlAt.of_row zr).c1; have z2 := (FlAt.of_row zr).c2; have z3 := (FlAt.of_row zr).c3; have f0 := World.rowIs.frozen zr 0; have f1 := World.rowIs.frozen zr 1; have f2 := World.rowIs.frozen zr 2; have f3 := World.rowIs.frozen zr 3) | skip)))
        · have hB8 := hid ((hB7.out.trans ((bel_dr b8).mono hB7.out.size)).alloc (by have := b8.size; have := hB7.out.size; simp at *; omega) (.cells #[.int .i64 0, .string ⟨#[]⟩, .string ⟨#[]⟩, .int .i64 0] 48))
          go_wp2
          go_ret2
          exact ⟨rfl, hB8.out⟩
        · have hB8 := hid (set4_below (.int .i64 0) (.string ⟨#[]⟩) (.string ⟨#[]⟩) (.int .i64 0) ((hB7.out.alloc hB7.out.size (.cells #[.int .i64 0, .string ⟨#[]⟩, .string ⟨#[]⟩, .int .i64 0] 48)).trans ((bel_dr b8).mono (by have := hB7.out.size; simp; omega))) hB7.out.size)
          go_wp2
          go_ret2
          exact ⟨rfl, hB8.out⟩
      · have hbd := hL.bound _ c3
        have hok := hbd.1
        have HI := hid (show num g 2 2 = num (fileOf l (num g 2 2 : Int)) 3 2 from by have := hbd.2; omega)
        rw [if_neg c3] at HA
        rw [HA.out]
        rw [foV_b c3] at HO
        simp only [fileV] at HO
        obtain ⟨hcz, hf13⟩ := pOk_con hok
        have htz : (pAns (fileOf l (num g 2 2 : Int))).2.1.size ≤ maxLen := (par_cases (fileOf l (num g 2 2 : Int))).elim (fun q => by rw [pAns_yes hok] at q; simp at q) (fun q => q.2.2.2.1)
        have hnm := num_lt (fileOf l (num g 2 2 : Int)) 3 2
        have hT := pOk_tab hok
        obtain ⟨g1, g2, g3, g4⟩ : 14 ≤ g.size ∧ btn g 0 = 70 ∧ btn g 1 ≤ 1 ∧ num g 8 2 ≤ 500 := of_decide_eq_true hH1
        have HOA := hid (dcAns_open (f := fileOf l (num g 2 2 : Int)) (g := g) (by omega) hok hH1 HI.out)
        have HOP := hid (fun i i2 b1 b2 w hF hH => open_any (pAns (fileOf l (num g 2 2 : Int))).2.1 (pAns (fileOf l (num g 2 2 : Int))).2.2.1 g i i2 (decide (btn g 1 = 1)) (num g 8 2) (num g 4 4) (wSum ((fileOf l (num g 2 2 : Int)).extract 0 (pE (fileOf l (num g 2 2 : Int))))) (num g 10 4) b1 b2 w hF hH htz hT hcz (by omega) g1 g4 l10)
        rw [HOA.out]
        have hws := wSum_lt ((fileOf l (num g 2 2 : Int)).extract 0 (pE (fileOf l (num g 2 2 : Int))))
        clear HOA HI hbd htz hcz hf13 hT g1 g2 g3 hok
        generalize opAns (pAns (fileOf l (num g 2 2 : Int))).2.1 (pAns (fileOf l (num g 2 2 : Int))).2.2.1 g (decide (btn g 1 = 1)) (num g 8 2) (num g 4 4) (wSum ((fileOf l (num g 2 2 : Int)).extract 0 (pE (fileOf l (num g 2 2 : Int))))) (num g 10 4) = RES at *
        generalize (pAns (fileOf l (num g 2 2 : Int))).2.1 = T at *
        generalize (pAns (fileOf l (num g 2 2 : Int))).2.2.1 = C at *
        generalize wSum ((fileOf l (num g 2 2 : Int)).extract 0 (pE (fileOf l (num g 2 2 : Int)))) = S at *
        generalize num (fileOf l (num g 2 2 : Int)) 3 2 = N at *
        clear HA c3 hH1
        generalize decide (btn g 1 = 1) = P at *
        generalize num g 2 2 = N2 at *
        generalize num g 4 4 = N4 at *
        generalize num g 8 2 = N8 at *
        generalize num g 10 4 = N10 at *
        go_enter Try.func24, Try.ntmps24
        go_wp2_with fail
        refine Calls.mono HLK.out ?_
        rintro e w1 ⟨rfl, b1⟩
        go_wp2_with fail
        refine Calls.mono (HH.out _) ?_
        rintro e w6 ⟨rfl, b6⟩
        have hq6 := hRow_lay w6 false 0 0 0 0
        have hB6 := hid (b1.trans (b6.mono b1.size))
        have H1 := hid h1
        clear h1 h3 h5 h4 HLK HH hL HFZ
        go_wp2_with (first
          | (refine wpList_store_rowIs rfl 82 (.tmp 8) (.tmp 25) rfl w6.heap.size rfl 82 5 (hRow false 0 0 0 0) (hRow P (N2 : Int) (N4 : Int) (N8 : Int) (N10 : Int)) hq6 rfl sizeHead (fun i _ => hRow_one _ _ _ _ _ i) ?_
             intro w7 q7 b7 o7 s7
             have hHD := hid (HdAt.of_row q7)
             have hB7 := hid ((hB6.out.alloc hB6.out.size (.cells #[.bool false, .int .i64 0, .int .i64 0, .int .i64 0, .int .i64 0] 82)).trans (b7.mono hB6.out.size))
             have hM7 := hid (H1.out.below hB7.out)
             have c1 := hHD.out.c1
             have lh := hHD.out.lt
             have nne := World.new_ne w7 ⟨w6.heap.size, 1, none⟩ c1
             have lne : w6.heap.size ≠ w7.heap.size := by omega
             have c1a := hid (fun o => (World.cell?_of_block (a := ⟨w6.heap.size, 1, none⟩) (Below.heap_alloc w7 o _ lh)).trans c1)
             clear q7 b7 o7 s7))
        go_region_held3 (fun w' => w'.cell? ⟨w6.heap.size, 1, none⟩ = some (.int .i64 (N2 : Int)))
          (first | go_keep | assumption | (refine far4 _ _ _ _ ?_ ?_ <;> assumption))
          (first | (go_at_call 40; refine (HO.out _ (by first | exact ⟨hM7.out.row, hM7.out.lo, hM7.out.bd, hM7.out.sh⟩ | exact ⟨(hM7.out.alloc _).row, hM7.out.lo, (hM7.out.alloc _).bd, (hM7.out.alloc _).sh⟩)).mono ?_; rintro e w8 ⟨rfl, b8⟩; have j1 : w8.cell? ⟨w6.heap.size, 1, none⟩ = some (.int .i64 (N2 : Int)) := (b8.cell (p := ⟨w6.heap.size, 1, none⟩) (Nat.lt_of_lt_of_le lh (by simp))).trans (by first | exact c1 | exact c1a.out _); (first | (have zr := fnew_row b8; have z0 := (FlAt.of_row zr).c0; have z1 := (FlAt.of_row zr).c1; have z2 := (FlAt.of_row zr).c2; have z3 := (FlAt.of_row zr).c3; have f0 := World.rowIs.frozen zr 0; have f1 := World.rowIs.frozen zr 1; have f2 := World.rowIs.frozen zr 2; have f3 := World.rowIs.frozen zr 3) | skip)))
        · have hB8 := hid ((hB7.out.trans ((bel_dr b8).mono hB7.out.size)).alloc (by have := b8.size; have := hB7.out.size; simp at *; omega) (.cells #[.int .i64 (N : Int), .string T, .string C, .int .i64 (S : Int)] 48))
          have hF8 := hid (FlAt.of_row (fRow_lay w8 (N : Int) T C (S : Int)))
          have hH8 := hid (hHD.out.kept (w' := w8.alloc (.cells #[.int .i64 (N : Int), .string T, .string C, .int .i64 (S : Int)] 48)) (by have := b8.size; simp at *; omega) (by rw [Below.heap_alloc _ _ _ (by have := b8.size; simp at *; omega)]; exact (bel_dr b8).block _ lh))
          go_wp2_with fail
          refine Calls.mono (HOP.out _ _ _ _ _ hF8.out hH8.out) ?_
          rintro e w9 ⟨rfl, b9⟩
          go_wp2
          go_ret2
          exact ⟨rfl, hB8.out.trans (b9.mono hB8.out.size)⟩
        · have hB8 := hid (set4_below (.int .i64 (N : Int)) (.string T) (.string C) (.int .i64 (S : Int)) ((hB7.out.alloc hB7.out.size (.cells #[.int .i64 0, .string ⟨#[]⟩, .string ⟨#[]⟩, .int .i64 0] 48)).trans ((bel_dr b8).mono (by have := hB7.out.size; simp; omega))) hB7.out.size)
          have hF8 := hid (FlAt.of_row (set4_row (N : Int) T C (S : Int) (fnew_row b8)))
          have hH8 := hid (hHD.out.kept (w' := ((((w8.setCell ⟨w7.heap.size, 0, none⟩ (.int .i64 (N : Int))).setCell ⟨w7.heap.size, 1, none⟩ (.string T)).setCell ⟨w7.heap.size, 2, none⟩ (.string C)).setCell ⟨w7.heap.size, 3, none⟩ (.int .i64 (S : Int)))) (by have := b8.size; simp at *; omega) (by rw [set4_block _ _ _ _ lne, (bel_dr b8).block _ (by simp; omega), Below.heap_alloc _ _ _ lh]))
          go_wp2_with fail
          refine Calls.mono (HOP.out _ _ _ _ _ hF8.out hH8.out) ?_
          rintro e w9 ⟨rfl, b9⟩
          go_wp2
          go_ret2
          exact ⟨rfl, hB8.out.trans (b9.mono hB8.out.size)⟩
end Go.Proofs.Ytnconbpneimjiaa

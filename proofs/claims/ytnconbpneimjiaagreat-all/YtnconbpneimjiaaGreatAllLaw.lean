/-
  P1 to P15: the law All: the script's loop.
-/
import Derived.Test.YtnconbpneimjiaaGreatAllSts
import Derived.Test.YtnconbpneimjiaaGreatPlainLaw
namespace Go.Proofs.YtnconbpneimjiaaGreat
open Go.RowKit Go.PlainAid

/-- The script lies in memory. -/
def Scr (W : World) (ao : Option Addr) (n : Nat) (O : Nat → OpR) : Prop := ∀ i, i < n → ∃ g off, ao = some ⟨g, off, none⟩ ∧ g < W.heap.size ∧ W.cell? ⟨g, off + i * 8, none⟩ = some (.int .i64 (O i).kd) ∧ W.cell? ⟨g, off + i * 8 + 1, none⟩ = some (.int .i64 (O i).on) ∧ W.cell? ⟨g, off + i * 8 + 2, none⟩ = some (.int .i64 (O i).a) ∧ W.cell? ⟨g, off + i * 8 + 3, none⟩ = some (.int .i64 (O i).b) ∧ W.cell? ⟨g, off + i * 8 + 4, none⟩ = some (.int .i64 (O i).c) ∧ W.cell? ⟨g, off + i * 8 + 5, none⟩ = some (.int .i64 (O i).d) ∧ W.cell? ⟨g, off + i * 8 + 6, none⟩ = some (.string (O i).s) ∧ W.cell? ⟨g, off + i * 8 + 7, none⟩ = some (.string (O i).t)
/-- A call's cells, as a row. -/
def oRow (kd on a b c d : Int) (s t : ByteArray) (j : Nat) : Value := if j = 0 then .int .i64 kd else if j = 1 then .int .i64 on else if j = 2 then .int .i64 a else if j = 3 then .int .i64 b else if j = 4 then .int .i64 c else if j = 5 then .int .i64 d else if j = 6 then .string s else .string t
theorem oRow_one (kd on a b c d : Int) (s t : ByteArray) (j : Nat) : (oRow kd on a b c d s t j).oneCell' = true := by
  unfold oRow
  repeat' (split; rfl)
  rfl
theorem oRow_new (w : World) : (w.alloc (.cells #[.int .i64 0, .int .i64 0, .int .i64 0, .int .i64 0, .int .i64 0, .int .i64 0, .string ⟨#[]⟩, .string ⟨#[]⟩] 25)).rowIs w.heap.size 25 8 (oRow 0 0 0 0 0 0 ⟨#[]⟩ ⟨#[]⟩) :=
  World.rowIs_alloc w #[.int .i64 0, .int .i64 0, .int .i64 0, .int .i64 0, .int .i64 0, .int .i64 0, .string ⟨#[]⟩, .string ⟨#[]⟩] 25 (oRow 0 0 0 0 0 0 ⟨#[]⟩ ⟨#[]⟩) (fun i hi => by
    have hi' : i < 8 := hi
    match i, hi' with
    | 0, _ => rfl
    | 1, _ => rfl
    | 2, _ => rfl
    | 3, _ => rfl
    | 4, _ => rfl
    | 5, _ => rfl
    | 6, _ => rfl
    | 7, _ => rfl)
theorem sizeOp : (Tryz.prog.info? 25).map (·.size) = some 8 := by kernel_rfl

theorem own_slice {w : World} {base size n e : Nat} {v : Value} {xs : List Value} (h : w.ownsRow base e size v n xs) : ∃ ao cap, v = .slice ao n cap := by
  rcases h.2 with ⟨rfl, rfl⟩ | ⟨g, cap, _, hv, _⟩
  · exact ⟨none, 0, rfl⟩
  · exact ⟨_, cap, hv⟩
theorem cell_two_new (w : World) (a b : Value) (t : TypeId) : ∀ j u, [a, b][j]? = some u → (w.alloc (.cells #[a, b] t)).cell? ((⟨w.heap.size, 0, none⟩ : Addr).add j) = some u := by
  intro j u h
  match j, h with
  | 0, h => simp at h; subst h; simp [Addr.add]
  | 1, h => simp at h; subst h; simp [Addr.add]
  | j + 2, h => simp at h

set_option maxRecDepth 100000 in
set_option maxHeartbeats 3200000 in
theorem all_law (ao : Option Addr) (n cap : Nat) (O : Nat → OpR) (W : World) (hs : Scr W ao n O) (hO : ∀ i, i < n → OpOk (O i).a (O i).b (O i).c (O i).d (O i).s (O i).t ∧ -9223372036854775808 ≤ (O i).on ∧ (O i).on ≤ 9223372036854775807) (hn : n ≤ 1780000000000) :
    Calls Tryz.prog 3 #[.slice ao n cap] W fun e w' => e = .returned (.bool true) ∧ Below W.heap.size W w' := by
  have HSC := hid hs
  have HOK := hid hO
  clear hs hO
  obtain ⟨i0, hi, hz0, hz1, hz2⟩ := info_parts Tryz.infoTwin
  go_enter Tryz.func3, Tryz.ntmps3
  go_wp2_with fail
  go_loopw [3, 4, 5, 6, 7, 8, 9, 10] (fun lv iv _ _ _ _ _ _ wr => ∃ (i m : Nat) (T : Nat → TwR), iv = .int .i64 i ∧ i ≤ n ∧ m ≤ i ∧ Sts wr W.heap.size lv m i T ∧ Below W.heap.size W wr) (fun _ iv _ _ _ _ _ _ _ => n - (intOf iv).toNat)
  case atStart => exact ⟨0, 0, fun _ => ⟨0, 0, fun _ => False, fun _ => False, 0, []⟩, rfl, Nat.zero_le _, Nat.le_refl _, Sts.none _ _ _, Below.refl _ _⟩
  case round =>
    obtain ⟨i, m, T, rfl, hin, hmi, hS, hbel⟩ := hrel
    have hwz := hbel.size
    by_cases hlt : i < n
    · obtain ⟨g, off, rfl, hg, e0, e1, e2, e3, e4, e5, e6, e7⟩ := HSC.out i hlt
      obtain ⟨ho, hn0, hn1⟩ := HOK.out i hlt
      have f0 : wr.cell? ⟨g, off + i * 8, none⟩ = _ := (hbel.cell (p := ⟨g, off + i * 8, none⟩) hg).trans e0
      have f1 : wr.cell? ⟨g, off + i * 8 + 1, none⟩ = _ := (hbel.cell (p := ⟨g, off + i * 8 + 1, none⟩) hg).trans e1
      have f2 : wr.cell? ⟨g, off + i * 8 + 2, none⟩ = _ := (hbel.cell (p := ⟨g, off + i * 8 + 2, none⟩) hg).trans e2
      have f3 : wr.cell? ⟨g, off + i * 8 + 3, none⟩ = _ := (hbel.cell (p := ⟨g, off + i * 8 + 3, none⟩) hg).trans e3
      have f4 : wr.cell? ⟨g, off + i * 8 + 4, none⟩ = _ := (hbel.cell (p := ⟨g, off + i * 8 + 4, none⟩) hg).trans e4
      have f5 : wr.cell? ⟨g, off + i * 8 + 5, none⟩ = _ := (hbel.cell (p := ⟨g, off + i * 8 + 5, none⟩) hg).trans e5
      have f6 : wr.cell? ⟨g, off + i * 8 + 6, none⟩ = _ := (hbel.cell (p := ⟨g, off + i * 8 + 6, none⟩) hg).trans e6
      have f7 : wr.cell? ⟨g, off + i * 8 + 7, none⟩ = _ := (hbel.cell (p := ⟨g, off + i * 8 + 7, none⟩) hg).trans e7
      clear e0 e1 e2 e3 e4 e5 e6 e7
      generalize O i = o at *
      obtain ⟨kd, on, a, b, c, d, s, t⟩ := o
      simp only at ho hn0 hn1 f0 f1 f2 f3 f4 f5 f6 f7
      have hq2 := oRow_new wr
      have hlt' : (i : Int) < (n : Int) := by omega
      by_cases hk : kd < 11
      · have k1 : (kd == 11) = false := beq_eq_false_iff_ne.2 (by omega)
        have HP := hid (fun w => plain_law kd on a b c d s t w ho)
        go_wp2_with (first
          | (refine wpList_store_rowIs rfl 25 (.tmp 5) (.tmp 20) rfl wr.heap.size rfl 25 8 (oRow 0 0 0 0 0 0 ⟨#[]⟩ ⟨#[]⟩) (oRow kd on a b c d s t) hq2 rfl sizeOp (fun i _ => oRow_one _ _ _ _ _ _ _ _ i) ?_
             intro w5 q5 b5 o5 s5
             have c0 : w5.cell? ⟨wr.heap.size, 0, none⟩ = some (.int .i64 kd) := World.rowIs.cell q5 (i := 0) (by omega)
             have c1 : w5.cell? ⟨wr.heap.size, 1, none⟩ = some (.int .i64 on) := World.rowIs.cell q5 (i := 1) (by omega)
             have c2 : w5.cell? ⟨wr.heap.size, 2, none⟩ = some (.int .i64 a) := World.rowIs.cell q5 (i := 2) (by omega)
             have c3 : w5.cell? ⟨wr.heap.size, 3, none⟩ = some (.int .i64 b) := World.rowIs.cell q5 (i := 3) (by omega)
             have c4 : w5.cell? ⟨wr.heap.size, 4, none⟩ = some (.int .i64 c) := World.rowIs.cell q5 (i := 4) (by omega)
             have c5 : w5.cell? ⟨wr.heap.size, 5, none⟩ = some (.int .i64 d) := World.rowIs.cell q5 (i := 5) (by omega)
             have c6 : w5.cell? ⟨wr.heap.size, 6, none⟩ = some (.string s) := World.rowIs.cell q5 (i := 6) (by omega)
             have c7 : w5.cell? ⟨wr.heap.size, 7, none⟩ = some (.string t) := World.rowIs.cell q5 (i := 7) (by omega)
             have hs5 : wr.heap.size < w5.heap.size := World.rowIs.lt q5
             have B5 := hid (((Below.refl wr.heap.size wr).alloc (Nat.le_refl _) (.cells #[.int .i64 0, .int .i64 0, .int .i64 0, .int .i64 0, .int .i64 0, .int .i64 0, .string ⟨#[]⟩, .string ⟨#[]⟩] 25)).trans b5)
             have S5 := hid (hS.below B5.out)
             clear q5 b5 o5 s5))
        refine Calls.mono (HP.out _) ?_
        rintro e w6 ⟨rfl, b6⟩
        go_wp2
        go_roundw
        case rel => exact ⟨i + 1, m, T, by go_num, by omega, by omega, (S5.out.below b6).more (by omega), (hbel.trans (B5.out.mono hwz)).trans (b6.mono (Nat.le_trans hwz B5.out.size))⟩
        case measure => simp [intOf]; omega
      · by_cases hk1 : kd = 11
        · subst hk1
          by_cases hr : a < 1 ∨ 8 < a
          · have H1 := hid (fun w => pg_new_no a w hr)
            have H2 := hid (fun w => stoNew_no a w hr)
            clear hk
            go_wp2_with (first
              | (refine wpList_store_rowIs rfl 25 (.tmp 5) (.tmp 20) rfl wr.heap.size rfl 25 8 (oRow 0 0 0 0 0 0 ⟨#[]⟩ ⟨#[]⟩) (oRow 11 on a b c d s t) hq2 rfl sizeOp (fun i _ => oRow_one _ _ _ _ _ _ _ _ i) ?_
                 intro w5 q5 b5 o5 s5
                 have c0 : w5.cell? ⟨wr.heap.size, 0, none⟩ = some (.int .i64 11) := World.rowIs.cell q5 (i := 0) (by omega)
                 have c1 : w5.cell? ⟨wr.heap.size, 1, none⟩ = some (.int .i64 on) := World.rowIs.cell q5 (i := 1) (by omega)
                 have c2 : w5.cell? ⟨wr.heap.size, 2, none⟩ = some (.int .i64 a) := World.rowIs.cell q5 (i := 2) (by omega)
                 have c3 : w5.cell? ⟨wr.heap.size, 3, none⟩ = some (.int .i64 b) := World.rowIs.cell q5 (i := 3) (by omega)
                 have c4 : w5.cell? ⟨wr.heap.size, 4, none⟩ = some (.int .i64 c) := World.rowIs.cell q5 (i := 4) (by omega)
                 have c5 : w5.cell? ⟨wr.heap.size, 5, none⟩ = some (.int .i64 d) := World.rowIs.cell q5 (i := 5) (by omega)
                 have c6 : w5.cell? ⟨wr.heap.size, 6, none⟩ = some (.string s) := World.rowIs.cell q5 (i := 6) (by omega)
                 have c7 : w5.cell? ⟨wr.heap.size, 7, none⟩ = some (.string t) := World.rowIs.cell q5 (i := 7) (by omega)
                 have hs5 : wr.heap.size < w5.heap.size := World.rowIs.lt q5
                 have B5 := hid (((Below.refl wr.heap.size wr).alloc (Nat.le_refl _) (.cells #[.int .i64 0, .int .i64 0, .int .i64 0, .int .i64 0, .int .i64 0, .int .i64 0, .string ⟨#[]⟩, .string ⟨#[]⟩] 25)).trans b5)
                 have S5 := hid (hS.below B5.out)
                 clear q5 b5 o5 s5))
            refine Calls.mono (H1.out _) ?_
            rintro e w6 ⟨rfl, b6⟩
            have d2 : w6.cell? ⟨wr.heap.size, 2, none⟩ = some (.int .i64 a) := (b6.cell (p := ⟨wr.heap.size, 2, none⟩) hs5).trans c2
            go_wp2_with fail
            refine Calls.mono (H2.out _) ?_
            rintro e w7 ⟨rfl, k7⟩
            rw [k7]
            clear k7 w7
            go_wp2
            go_roundw
            case rel => exact ⟨i + 1, m, T, by go_num, by omega, by omega, (S5.out.below b6).more (by omega), (hbel.trans (B5.out.mono hwz)).trans (b6.mono (Nat.le_trans hwz B5.out.size))⟩
            case measure => simp [intOf]; omega
          · have H1 := hid (fun w => pg_new a w hr)
            have H2 := hid (fun w => rs_new a w hr)
            clear hk
            go_wp2_with (first
              | (refine wpList_store_rowIs rfl 25 (.tmp 5) (.tmp 20) rfl wr.heap.size rfl 25 8 (oRow 0 0 0 0 0 0 ⟨#[]⟩ ⟨#[]⟩) (oRow 11 on a b c d s t) hq2 rfl sizeOp (fun i _ => oRow_one _ _ _ _ _ _ _ _ i) ?_
                 intro w5 q5 b5 o5 s5
                 have c0 : w5.cell? ⟨wr.heap.size, 0, none⟩ = some (.int .i64 11) := World.rowIs.cell q5 (i := 0) (by omega)
                 have c1 : w5.cell? ⟨wr.heap.size, 1, none⟩ = some (.int .i64 on) := World.rowIs.cell q5 (i := 1) (by omega)
                 have c2 : w5.cell? ⟨wr.heap.size, 2, none⟩ = some (.int .i64 a) := World.rowIs.cell q5 (i := 2) (by omega)
                 have c3 : w5.cell? ⟨wr.heap.size, 3, none⟩ = some (.int .i64 b) := World.rowIs.cell q5 (i := 3) (by omega)
                 have c4 : w5.cell? ⟨wr.heap.size, 4, none⟩ = some (.int .i64 c) := World.rowIs.cell q5 (i := 4) (by omega)
                 have c5 : w5.cell? ⟨wr.heap.size, 5, none⟩ = some (.int .i64 d) := World.rowIs.cell q5 (i := 5) (by omega)
                 have c6 : w5.cell? ⟨wr.heap.size, 6, none⟩ = some (.string s) := World.rowIs.cell q5 (i := 6) (by omega)
                 have c7 : w5.cell? ⟨wr.heap.size, 7, none⟩ = some (.string t) := World.rowIs.cell q5 (i := 7) (by omega)
                 have hs5 : wr.heap.size < w5.heap.size := World.rowIs.lt q5
                 have B5 := hid (((Below.refl wr.heap.size wr).alloc (Nat.le_refl _) (.cells #[.int .i64 0, .int .i64 0, .int .i64 0, .int .i64 0, .int .i64 0, .int .i64 0, .string ⟨#[]⟩, .string ⟨#[]⟩] 25)).trans b5)
                 have S5 := hid (hS.below B5.out)
                 clear q5 b5 o5 s5))
            refine Calls.mono (H1.out _) ?_
            rintro e w6 ⟨x, FX, rfl, px, hx, b6⟩
            have d2 : w6.cell? ⟨wr.heap.size, 2, none⟩ = some (.int .i64 a) := (b6.cell (p := ⟨wr.heap.size, 2, none⟩) hs5).trans c2
            go_wp2_with fail
            refine Calls.mono (H2.out _) ?_
            rintro e w7 ⟨r, FR, rfl, rr, hrr, b7⟩
            have B7 := hid (b6.trans (b7.mono b6.size))
            have TW := hid (show Twin w7 x r FX FR a [] from ⟨px.kept b7.size (fun k q => b7.block k (px.lt k q)), rr, fun k q1 q2 => by have := px.lt k q1; have := hrr k q2; omega, LogOk.nil⟩)
            have S7 := hid (S5.out.below B7.out)
            have hs7 := B7.out.size
            have hs6 := b6.size
            have hwz5 := B5.out.size
            have hNB := hid (fun k (q : FX k ∨ FR k) => show w5.heap.size ≤ k from q.elim (hx k) (fun q => Nat.le_trans b6.size (hrr k q)))
            go_wp2_with fail
            refine Calls.mono (lnum_any _ _) ?_
            rintro e w' ⟨rfl, kw⟩
            rw [kw]
            clear kw w'
            go_wp2_with (at_builtin; refine wpList_append_own_at _ rfl (.tmp 49) (.tmp 53) 23 rfl W.heap.size 35 i0 (.agg #[.pointer none, .pointer none]) 2 16 Tryz.underlying23 hi hz0 hz1 hz2 rfl (by decide) _ _ _ rfl (S7.out.row.alloc _) ⟨_, 0, none⟩ 1 1 [.pointer (some ⟨x, 0, none⟩), .pointer (some ⟨r, 0, none⟩)] rfl rfl (cell_two_new _ _ _ _) (by intro u hu; simp at hu; rcases hu with rfl | rfl <;> rfl) (by unfold maxLen; omega) (by omega) (by simp; omega) ?_; intro v' w8 hown' hgrow _ hat)
            go_roundw
            case rel =>
              have S8 := (S7.out.more (show i ≤ i + 1 from by omega)).push (T1 := ⟨x, r, FX, FR, a, []⟩) (by omega) TW.out (by simp) (fun k q => by have := hNB.out k q; omega) (fun j hj k q1 q2 => by have := S5.out.lt j hj k q1; have := hNB.out k q2; omega) (fun k q q2 => by have := (S5.out.row.lt k q2).2; have := hNB.out k q; omega) hown' hgrow hat
              have bel8 := (((hbel.trans (B5.out.mono hwz)).trans (B7.out.mono (by omega))).alloc (by omega) _).grown hgrow (by simp; omega) (own_base S7.out.row)
              first
                | exact ⟨i + 1, m + 1, _, by go_num, by omega, by omega, S8, bel8⟩
                | ((repeat apply Exists.intro); exact ⟨⟨i + 1, m + 1, _, by go_num, by omega, by omega, S8, bel8⟩, rfl⟩)
            case measure => simp [intOf]; omega
        · have k1 : (kd == 11) = false := beq_eq_false_iff_ne.2 hk1
          have k2 : ¬ kd < 11 := hk
          rcases Nat.eq_zero_or_pos m with hm0 | hm0
          · subst hm0
            obtain ⟨ao2, cap2, rfl⟩ := own_slice hS.row
            go_wp2_with (first
              | (refine wpList_store_rowIs rfl 25 (.tmp 5) (.tmp 20) rfl wr.heap.size rfl 25 8 (oRow 0 0 0 0 0 0 ⟨#[]⟩ ⟨#[]⟩) (oRow kd on a b c d s t) hq2 rfl sizeOp (fun i _ => oRow_one _ _ _ _ _ _ _ _ i) ?_
                 intro w5 q5 b5 o5 s5
                 have c0 : w5.cell? ⟨wr.heap.size, 0, none⟩ = some (.int .i64 kd) := World.rowIs.cell q5 (i := 0) (by omega)
                 have c1 : w5.cell? ⟨wr.heap.size, 1, none⟩ = some (.int .i64 on) := World.rowIs.cell q5 (i := 1) (by omega)
                 have c2 : w5.cell? ⟨wr.heap.size, 2, none⟩ = some (.int .i64 a) := World.rowIs.cell q5 (i := 2) (by omega)
                 have c3 : w5.cell? ⟨wr.heap.size, 3, none⟩ = some (.int .i64 b) := World.rowIs.cell q5 (i := 3) (by omega)
                 have c4 : w5.cell? ⟨wr.heap.size, 4, none⟩ = some (.int .i64 c) := World.rowIs.cell q5 (i := 4) (by omega)
                 have c5 : w5.cell? ⟨wr.heap.size, 5, none⟩ = some (.int .i64 d) := World.rowIs.cell q5 (i := 5) (by omega)
                 have c6 : w5.cell? ⟨wr.heap.size, 6, none⟩ = some (.string s) := World.rowIs.cell q5 (i := 6) (by omega)
                 have c7 : w5.cell? ⟨wr.heap.size, 7, none⟩ = some (.string t) := World.rowIs.cell q5 (i := 7) (by omega)
                 have hs5 : wr.heap.size < w5.heap.size := World.rowIs.lt q5
                 have B5 := hid (((Below.refl wr.heap.size wr).alloc (Nat.le_refl _) (.cells #[.int .i64 0, .int .i64 0, .int .i64 0, .int .i64 0, .int .i64 0, .int .i64 0, .string ⟨#[]⟩, .string ⟨#[]⟩] 25)).trans b5)
                 have S5 := hid (hS.below B5.out)
                 clear q5 b5 o5 s5))
            go_roundw
            case rel => exact ⟨i + 1, 0, T, by go_num, by omega, by omega, S5.out.more (by omega), hbel.trans (B5.out.mono hwz)⟩
            case measure => simp [intOf]; omega
          · obtain ⟨gl, cap2, rfl⟩ := own_frm4 hS.row hm0
            have hqm := pk_lt on hm0
            have HPK := hid (fun w => lpk_any on m w hn0 hn1 hm0 (by omega))
            generalize pk on m = qq at *
            have hq1 : (qq : Int) < (m : Int) := by omega
            have hm1 : (0 : Int) < (m : Int) := by omega
            have r0 : wr.cell? ⟨gl, qq * 2, none⟩ = some (.pointer (some ⟨(T qq).x, 0, none⟩)) := by
              have := twCells_get T m qq hqm 0 (by omega)
              rw [Nat.add_zero] at this
              rw [World.ownsRow.cellAt hS.row (qq * 2) (by omega), this]; rfl
            have r1 : wr.cell? ⟨gl, qq * 2 + 1, none⟩ = some (.pointer (some ⟨(T qq).r, 0, none⟩)) := by
              rw [World.ownsRow.cellAt hS.row (qq * 2 + 1) (by omega), twCells_get T m qq hqm 1 (by omega)]; rfl
            have hgl := (hS.row.lt gl rfl).2
            have hln := hS.len qq hqm
            have KS := hid (fun w h => stored_law kd on a b c d s t (T qq).x (T qq).r (T qq).FX (T qq).FR (T qq).room (T qq).l w h (by omega) ho)
            have nbo : ¬ ((T qq).FX wr.heap.size ∨ (T qq).FR wr.heap.size) := fun q => by have := hS.lt qq hqm _ q; omega
            have ngl : ¬ ((T qq).FX gl ∨ (T qq).FR gl) := fun q => hS.free qq hqm gl q rfl
            go_wp2_with (first
              | (refine wpList_store_rowIs rfl 25 (.tmp 5) (.tmp 20) rfl wr.heap.size rfl 25 8 (oRow 0 0 0 0 0 0 ⟨#[]⟩ ⟨#[]⟩) (oRow kd on a b c d s t) hq2 rfl sizeOp (fun i _ => oRow_one _ _ _ _ _ _ _ _ i) ?_
                 intro w5 q5 b5 o5 s5
                 have c0 : w5.cell? ⟨wr.heap.size, 0, none⟩ = some (.int .i64 kd) := World.rowIs.cell q5 (i := 0) (by omega)
                 have c1 : w5.cell? ⟨wr.heap.size, 1, none⟩ = some (.int .i64 on) := World.rowIs.cell q5 (i := 1) (by omega)
                 have c2 : w5.cell? ⟨wr.heap.size, 2, none⟩ = some (.int .i64 a) := World.rowIs.cell q5 (i := 2) (by omega)
                 have c3 : w5.cell? ⟨wr.heap.size, 3, none⟩ = some (.int .i64 b) := World.rowIs.cell q5 (i := 3) (by omega)
                 have c4 : w5.cell? ⟨wr.heap.size, 4, none⟩ = some (.int .i64 c) := World.rowIs.cell q5 (i := 4) (by omega)
                 have c5 : w5.cell? ⟨wr.heap.size, 5, none⟩ = some (.int .i64 d) := World.rowIs.cell q5 (i := 5) (by omega)
                 have c6 : w5.cell? ⟨wr.heap.size, 6, none⟩ = some (.string s) := World.rowIs.cell q5 (i := 6) (by omega)
                 have c7 : w5.cell? ⟨wr.heap.size, 7, none⟩ = some (.string t) := World.rowIs.cell q5 (i := 7) (by omega)
                 have hs5 : wr.heap.size < w5.heap.size := World.rowIs.lt q5
                 have B5 := hid (((Below.refl wr.heap.size wr).alloc (Nat.le_refl _) (.cells #[.int .i64 0, .int .i64 0, .int .i64 0, .int .i64 0, .int .i64 0, .int .i64 0, .string ⟨#[]⟩, .string ⟨#[]⟩] 25)).trans b5)
                 have S5 := hid (hS.below B5.out)
                 clear q5 b5 o5 s5))
            have c8 : w5.cell? ⟨gl, qq * 2, none⟩ = some (.pointer (some ⟨(T qq).x, 0, none⟩)) := (B5.out.cell (p := ⟨gl, qq * 2, none⟩) hgl).trans r0
            have c9 : w5.cell? ⟨gl, qq * 2 + 1, none⟩ = some (.pointer (some ⟨(T qq).r, 0, none⟩)) := (B5.out.cell (p := ⟨gl, qq * 2 + 1, none⟩) hgl).trans r1
            have hgl5 : gl < w5.heap.size := by omega
            have HTW := hid (S5.out.lies qq hqm)
            go_region_held3 (fun w' => w'.cell? ⟨wr.heap.size, 0, none⟩ = some (.int .i64 kd) ∧ w'.cell? ⟨wr.heap.size, 1, none⟩ = some (.int .i64 on) ∧ w'.cell? ⟨wr.heap.size, 2, none⟩ = some (.int .i64 a) ∧ w'.cell? ⟨wr.heap.size, 3, none⟩ = some (.int .i64 b) ∧ w'.cell? ⟨wr.heap.size, 4, none⟩ = some (.int .i64 c) ∧ w'.cell? ⟨wr.heap.size, 5, none⟩ = some (.int .i64 d) ∧ w'.cell? ⟨wr.heap.size, 6, none⟩ = some (.string s) ∧ w'.cell? ⟨wr.heap.size, 7, none⟩ = some (.string t) ∧ w'.cell? ⟨gl, qq * 2, none⟩ = some (.pointer (some ⟨(T qq).x, 0, none⟩)) ∧ w'.cell? ⟨gl, qq * 2 + 1, none⟩ = some (.pointer (some ⟨(T qq).r, 0, none⟩))) (first | go_keep | (refine ⟨?_, ?_, ?_, ?_, ?_, ?_, ?_, ?_, ?_, ?_⟩ <;> assumption) | assumption) (first | (go_at_call 9; refine (HPK.out _).mono ?_; rintro e w6 ⟨rfl, kw⟩; rw [kw]; clear kw w6) | (go_at_call 8; refine (KS.out _ (HTW.out.below (Below.drew (Below.refl _ _)))).mono ?_; rintro e w8 ⟨rfl, FX', FR', l', t1, t2, t3, t4⟩; have k0 : w8.cell? ⟨wr.heap.size, 0, none⟩ = some (.int .i64 kd) := (World.cell?_of_block (t3.block wr.heap.size hs5 nbo)).trans c0; have k1 : w8.cell? ⟨wr.heap.size, 1, none⟩ = some (.int .i64 on) := (World.cell?_of_block (t3.block wr.heap.size hs5 nbo)).trans c1; have k2 : w8.cell? ⟨wr.heap.size, 2, none⟩ = some (.int .i64 a) := (World.cell?_of_block (t3.block wr.heap.size hs5 nbo)).trans c2; have k3 : w8.cell? ⟨wr.heap.size, 3, none⟩ = some (.int .i64 b) := (World.cell?_of_block (t3.block wr.heap.size hs5 nbo)).trans c3; have k4 : w8.cell? ⟨wr.heap.size, 4, none⟩ = some (.int .i64 c) := (World.cell?_of_block (t3.block wr.heap.size hs5 nbo)).trans c4; have k5 : w8.cell? ⟨wr.heap.size, 5, none⟩ = some (.int .i64 d) := (World.cell?_of_block (t3.block wr.heap.size hs5 nbo)).trans c5; have k6 : w8.cell? ⟨wr.heap.size, 6, none⟩ = some (.string s) := (World.cell?_of_block (t3.block wr.heap.size hs5 nbo)).trans c6; have k7 : w8.cell? ⟨wr.heap.size, 7, none⟩ = some (.string t) := (World.cell?_of_block (t3.block wr.heap.size hs5 nbo)).trans c7; have k8 : w8.cell? ⟨gl, qq * 2, none⟩ = some (.pointer (some ⟨(T qq).x, 0, none⟩)) := (World.cell?_of_block (t3.block gl hgl5 ngl)).trans c8; have k9 : w8.cell? ⟨gl, qq * 2 + 1, none⟩ = some (.pointer (some ⟨(T qq).r, 0, none⟩)) := (World.cell?_of_block (t3.block gl hgl5 ngl)).trans c9))
            have S5d : Sts w5.drew W.heap.size _ m i T := S5.out.below (Below.drew (Below.refl _ _))
            have S8 := hid (S5d.call hqm (by have := B5.out.size; simp only [World.drew]; omega) t1 t2 t3 t4)
            have bel8 := hid (((hbel.trans (B5.out.mono hwz)).trans (Below.drew (Below.refl _ _))).trans (t3.below (B := W.heap.size) (by have := B5.out.size; show W.heap.size ≤ w5.heap.size; omega) (fun k q => hS.base qq hqm k q)))
            go_wp2
            go_roundw
            case rel => exact ⟨i + 1, m, _, by go_num, by omega, by omega, S8.out, bel8.out⟩
            case measure => simp [intOf]; omega
    · have hlt' : ¬ (i : Int) < (n : Int) := by omega
      go_wp2
      go_ret
      exact ⟨rfl, hbel⟩
end Go.Proofs.YtnconbpneimjiaaGreat

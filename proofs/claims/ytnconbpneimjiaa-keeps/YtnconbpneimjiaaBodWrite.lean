/-
  P11: rows of copies in memory; the walk of bodies.split.
  P11: the walks of bodies.writeStep, writeLoose, Write.
-/
import Derived.Test.YtnconbpneimjiaaBodMath
import Derived.Test.YtnconbpneimjiaaCntWalk
import Derived.Test.YtnconbpneimjiaaSqzWalk
import Derived.Test.YtnconbpneimjiaaBackMath
namespace Go.Proofs.Ytnconbpneimjiaa
open Go.RowKit Go.PlainAid

/-! ### P11: rows of copies in memory; the walk of bodies.split. -/
theorem Try.infoStep : (Try.prog.info? 125).map (fun i => (i.zero, i.size, i.bytes)) = some (some (.agg #[.int .i64 0, .int .i64 0, .int .i64 0]), 3, 24) := by kernel_rfl
/-- The cells of a copy; of a row of copies. -/
def stCell (s : Nat × Nat × Nat) : List Value := [.int .i64 (s.1 : Int), .int .i64 (s.2.1 : Int), .int .i64 (s.2.2 : Int)]
def stCells (l : List (Nat × Nat × Nat)) : List Value := l.flatMap stCell
theorem stCells_len (l : List (Nat × Nat × Nat)) : (stCells l).length = l.length * 3 := by
  induction l with
  | nil => rfl
  | cons s l ih => simp only [stCells, List.flatMap_cons, List.length_append, List.length_cons] at ih ⊢; rw [ih]; simp [stCell]; omega
theorem stCells_app (l : List (Nat × Nat × Nat)) (x : Nat × Nat × Nat) : stCells (l ++ [x]) = stCells l ++ stCell x := by simp [stCells]
theorem stCells_get (l : List (Nat × Nat × Nat)) : ∀ k, k < l.length → ∀ i, i < 3 → (stCells l)[k * 3 + i]? = (stCell (l.getD k (0, 0, 0)))[i]? := by
  induction l with
  | nil => intro k hk; simp at hk
  | cons s l ih =>
    intro k hk i hi
    have e : stCells (s :: l) = stCell s ++ stCells l := by simp [stCells]
    rw [e]
    cases k with
    | zero =>
      rw [List.getElem?_append_left (by simp [stCell]; omega)]
      simp
    | succ k =>
      rw [List.getElem?_append_right (by simp [stCell]; omega), show (k + 1) * 3 + i - (stCell s).length = k * 3 + i from by simp [stCell]; omega, ih k (by simp at hk; omega) i hi]
      simp
theorem cell_three_at (w : World) (a b c : Value) (t : TypeId) : ∀ j u, [a, b, c][j]? = some u → (w.alloc (.cells #[a, b, c] t)).cell? ((⟨w.heap.size, 0, none⟩ : Addr).add j) = some u := by
  intro j u hj
  match j, hj with
  | 0, hj => simp at hj; subst hj; simp [Addr.add]
  | 1, hj => simp at hj; subst hj; simp [Addr.add]
  | 2, hj => simp at hj; subst hj; simp [Addr.add]
/-- Two rows of other types lie apart. -/
theorem own_apart {w : World} {b1 b2 e1 e2 s1 s2 n1 n2 : Nat} {v1 v2 : Value} {x1 x2 : List Value} (h1 : w.ownsRow b1 e1 s1 v1 n1 x1) (h2 : w.ownsRow b2 e2 s2 v2 n2 x2) (hne : e1 ≠ e2) : v1.ownBlock = none ∨ v1.ownBlock ≠ v2.ownBlock := by
  rcases h1.2 with ⟨rfl, _⟩ | ⟨g, cap, cur, rfl, _, hg, _⟩
  · exact .inl rfl
  · right
    rcases h2.2 with ⟨rfl, _⟩ | ⟨g', cap', cur', rfl, _, hg', _⟩
    · simp [Value.ownBlock]
    · simp only [Value.ownBlock, ne_eq, Option.some.injEq]
      rintro rfl
      rw [hg] at hg'
      simp only [Option.some.injEq, Obj.cells.injEq] at hg'
      exact hne hg'.2.1
theorem stp_drewN {w : World} {base e size : Nat} {v : Value} {n : Nat} {xs : List Value} (h : w.ownsRow base e size v n xs) (q : Nat) : (w.drewN q).ownsRow base e size v n xs := h
theorem ret_sv {a b : ByteArray} {u v : Value} (h1 : a = b) (h2 : u = v) : Ending.returned (.tuple #[.string a, u]) = .returned (.tuple #[.string b, v]) := by rw [h1, h2]

set_option maxRecDepth 100000 in
set_option maxHeartbeats 1600000 in
theorem split_any (c r : ByteArray) (w : World) (hc : c.size ≤ 500) (hr : r.size ≤ 500) :
    Calls Try.prog 64 #[.string c, .string r] w fun e w' => ∃ v, e = .returned (.tuple #[.string (spA c r).1, v]) ∧ w'.ownsRow w.heap.size 125 3 v (spA c r).2.length (stCells (spA c r).2) ∧ Below w.heap.size w w' := by
  have hall : (c ++ r).size = c.size + r.size := ByteArray.size_append
  have hA : spA c r = spS (c ++ r) (r.size + 1) c.size ⟨#[]⟩ [] 0 := rfl
  obtain ⟨i0, hi, hz0, hz1, hz2⟩ := info_parts Try.infoU8
  obtain ⟨i1, gi, gz0, gz1, gz2⟩ := info_parts Try.infoStep
  have HA := hid hA
  clear hA
  generalize spA c r = Q at *
  generalize hAL : c ++ r = all at *
  have HAL := hid hAL
  clear hAL
  have hb := get_btn all
  have HLG := hid (fun p (h : p < all.size) w => plongest_any all p w (by omega) h)
  go_enter Try.func64, Try.ntmps64
  go_wp2_with fail
  rw [HAL.out]
  go_loopg [7, 8, 9, 10, 11, 12] (r.size + 1) (fun gh lo sv ah at' _ _ wr => ∃ (L : List Nat) (st : List (Nat × Nat × Nat)) (a p : Nat), wr.ownsRow w.heap.size 5 1 lo L.length ((ints L).map (Value.int .u8)) ∧ wr.ownsRow w.heap.size 125 3 sv st.length (stCells st) ∧ ah = .int .i64 a ∧ at' = .int .i64 p ∧ c.size ≤ p ∧ p ≤ all.size ∧ L.length + 4 * st.length ≤ p - c.size ∧ a ≤ p - c.size ∧ all.size - p < gh ∧ Q = spS all gh p (strN L) st a ∧ Below w.heap.size w wr)
  case atStart => exact ⟨[], [], 0, c.size, World.ownsRow_nil _ _ _ _, World.ownsRow_nil _ _ _ _, rfl, rfl, Nat.le_refl _, by omega, by simp, Nat.zero_le _, by omega, HA.out, Below.refl _ _⟩
  case round =>
    obtain ⟨L, st, a, p, ho1, ho2, rfl, rfl, hp1, hp2, hl, ha, hf, hQ, hbel⟩ := hrel
    obtain ⟨f, hfe⟩ : ∃ f, gk = f + 1 := ⟨gk - 1, by omega⟩
    subst hfe
    have HQ := hid hQ
    clear hQ
    have hsz := hbel.size
    by_cases hlt : p < all.size
    · have hcall := hid (HLG.out p hlt wr)
      have hlg := lgTo_le all p p
      have HS := hid (show spS all (f + 1) p (strN L) st a = if p < all.size then (if (lgTo all p p).1 < 4 then spS all f (p + 1) (strN L ++ all.extract p (p + 1)) st (a + 1) else spS all f (p + (lgTo all p p).1) (strN L) (st ++ [(a, (lgTo all p p).1, (lgTo all p p).2)]) 0) else (strN L, st) from rfl)
      rw [if_pos hlt] at HS
      generalize lgTo all p p = q at *
      obtain ⟨len, dist⟩ := q
      simp only at hlg HS hcall
      by_cases h4 : len < 4
      · rw [if_pos h4, ← strN_snoc all p L hlt] at HS
        have HN := hid (HQ.out.trans HS.out)
        have h4' : (len : Int) < 4 := by omega
        have hbp := btn_lt all p
        clear HS HQ
        go_wp2_with (first
          | (go_at_call 71; refine Calls.mono hcall.out ?_; rintro e w' ⟨rfl, nq, rfl⟩)
          | (at_builtin; refine wpList_append_own _ rfl (.tmp 30) (.tmp 34) 29 rfl w.heap.size 5 i0 (.int .u8 0) 1 1 Try.underlying29 hi hz0 hz1 hz2 rfl (by decide) _ _ _ rfl ((stp_drewN ho1 nq).alloc _) ⟨_, 0, none⟩ 1 1 [.int .u8 (btn all p : Int)] rfl rfl (cell_one_new _ _ _) (by intro u hu; simp at hu; subst hu; rfl) (by unfold maxLen; omega) (by omega) (by simp; omega) ?_; intro v' w4 hown' hgrow _))
        go_roundg f
        case measure => omega
        case rel =>
          have hown4 : w4.ownsRow w.heap.size 5 1 v' (L ++ [btn all p]).length ((ints (L ++ [btn all p])).map (Value.int .u8)) := by
            rw [List.length_append, List.length_singleton]; simpa [ints] using hown'
          have hst4 : w4.ownsRow w.heap.size 125 3 _ st.length (stCells st) := ((stp_drewN ho2 nq).alloc _).kept hgrow (own_apart ho2 ho1 (by decide))
          have bel4 := ((Below.drewN hbel nq).alloc (by simp; omega) _).grown hgrow (by simp; omega) (own_base ho1)
          have hll : (L ++ [btn all p]).length + 4 * st.length ≤ p + 1 - c.size := by rw [List.length_append, List.length_singleton]; omega
          first
            | exact ⟨L ++ [btn all p], st, a + 1, p + 1, hown4, hst4, by go_num, by go_num, by omega, by omega, hll, by omega, by omega, HN.out, bel4⟩
            | ((repeat apply Exists.intro); exact ⟨⟨L ++ [btn all p], st, a + 1, p + 1, hown4, hst4, by go_num, by go_num, by omega, by omega, hll, by omega, by omega, HN.out, bel4⟩, rfl⟩)
      · rw [if_neg h4] at HS
        have HN := hid (HQ.out.trans HS.out)
        have h4' : ¬ (len : Int) < 4 := by omega
        clear HS HQ
        go_wp2_with (first
          | (go_at_call 71; refine Calls.mono hcall.out ?_; rintro e w' ⟨rfl, nq, rfl⟩)
          | (at_builtin; refine wpList_append_own _ rfl (.tmp 40) (.tmp 45) 119 rfl w.heap.size 125 i1 (.agg #[.int .i64 0, .int .i64 0, .int .i64 0]) 3 24 Try.underlying119 gi gz0 gz1 gz2 rfl (by decide) _ _ _ rfl ((stp_drewN ho2 nq).alloc _) ⟨_, 0, none⟩ 1 1 [.int .i64 (a : Int), .int .i64 (len : Int), .int .i64 (dist : Int)] rfl rfl (cell_three_at _ _ _ _ _) (by intro u hu; simp at hu; rcases hu with rfl | rfl | rfl <;> rfl) (by unfold maxLen; omega) (by omega) (by simp; omega) ?_; intro v' w4 hown' hgrow _))
        go_roundg f
        case measure => omega
        case rel =>
          have hown4 : w4.ownsRow w.heap.size 125 3 v' (st ++ [(a, len, dist)]).length (stCells (st ++ [(a, len, dist)])) := by
            rw [List.length_append, List.length_singleton, stCells_app]; exact hown'
          have hlo4 : w4.ownsRow w.heap.size 5 1 _ L.length ((ints L).map (Value.int .u8)) := ((stp_drewN ho1 nq).alloc _).kept hgrow (own_apart ho1 ho2 (by decide))
          have bel4 := ((Below.drewN hbel nq).alloc (by simp; omega) _).grown hgrow (by simp; omega) (own_base ho2)
          have hll : L.length + 4 * (st ++ [(a, len, dist)]).length ≤ p + len - c.size := by rw [List.length_append, List.length_singleton]; omega
          first
            | exact ⟨L, st ++ [(a, len, dist)], 0, p + len, hlo4, hown4, rfl, by go_num, by omega, by omega, hll, by omega, by omega, HN.out, bel4⟩
            | ((repeat apply Exists.intro); exact ⟨⟨L, st ++ [(a, len, dist)], 0, p + len, hlo4, hown4, rfl, by go_num, by omega, by omega, hll, by omega, by omega, HN.out, bel4⟩, rfl⟩)
    · have HE := hid (show Q = (strN L, st) from by rw [HQ.out, spS, if_neg hlt])
      have hlt' : ¬ (p : Int) < (all.size : Int) := by omega
      have hconv := conv_own (P := Try.prog) (dst := 9) Try.underlying29 Try.underlying5 Try.underlying9 ho1
      clear HQ
      go_wp2
      go_ret2
      refine ⟨_, ret_sv ?_ rfl, ?_, hbel⟩
      · rw [HE.out]; rfl
      · rw [HE.out]; exact ho2

/-! ### P11: the walks of bodies.writeStep, writeLoose, Write. -/
/-- A row of copies in one form. -/
theorem st_form {w : World} {base : Nat} {v : Value} {l : List (Nat × Nat × Nat)} (h : w.ownsRow base 125 3 v l.length (stCells l)) : ∃ ao cap, v = .slice ao l.length cap ∧ ∀ k, k < l.length → ∃ g, ao = some ⟨g, 0, none⟩ ∧ g < w.heap.size ∧ w.cell? ⟨g, k * 3, none⟩ = some (.int .i64 ((l.getD k (0, 0, 0)).1 : Int)) ∧ w.cell? ⟨g, k * 3 + 1, none⟩ = some (.int .i64 ((l.getD k (0, 0, 0)).2.1 : Int)) ∧ w.cell? ⟨g, k * 3 + 2, none⟩ = some (.int .i64 ((l.getD k (0, 0, 0)).2.2 : Int)) := by
  have hl := h.lt
  rcases h.2 with ⟨rfl, hn⟩ | ⟨g, cap, cur, rfl, hg, hgb, _⟩
  · exact ⟨none, 0, by rw [hn], fun k hk => by omega⟩
  · refine ⟨some ⟨g, 0, none⟩, cap, rfl, fun k hk => ⟨g, rfl, (hl g rfl).2, ?_, ?_, ?_⟩⟩
    · have := stCells_get l k hk 0 (by omega)
      rw [Nat.add_zero] at this
      rw [World.ownsRow.cellAt h (k * 3) (by omega), this]; rfl
    · rw [World.ownsRow.cellAt h (k * 3 + 1) (by omega), stCells_get l k hk 1 (by omega)]; rfl
    · rw [World.ownsRow.cellAt h (k * 3 + 2) (by omega), stCells_get l k hk 2 (by omega)]; rfl

set_option maxRecDepth 100000 in
set_option maxHeartbeats 800000 in
theorem wstep_any (a l d : Nat) (w : World) (ha : a ≤ 2000) (hl : 4 ≤ l) (hl2 : l ≤ 2000) (hd : d ≤ 2000) :
    Calls Try.prog 67 #[.agg #[.int .i64 (a : Int), .int .i64 (l : Int), .int .i64 (d : Int)]] w fun e w' => e = .returned (.string (cpB (a, l, d))) ∧ Below w.heap.size w w' := by
  have HB := hid (show cpB (a, l, d) = ctB a ++ ctB (l - 4) ++ ctB d from rfl)
  have k1 := hid (fun w => cwrite_any a w (by omega))
  have k2 := hid (fun w => cwrite_any (l - 4) w (by omega))
  have k3 := hid (fun w => cwrite_any d w (by omega))
  have z1 := ctB_size a
  have z2 := ctB_size (l - 4)
  have z3 := ctB_size d
  have e4 : (l : Int) - 4 = ((l - 4 : Nat) : Int) := by omega
  rw [HB.out]
  clear HB
  generalize ctB a = C1 at *
  generalize ctB (l - 4) = C2 at *
  generalize ctB d = C3 at *
  go_enter Try.func67, Try.ntmps67
  go_wp2_with fail
  refine Calls.mono (k1.out _) ?_
  rintro e w1 ⟨rfl, b1⟩
  have c1 : w1.cell? ⟨w.heap.size, 1, none⟩ = some (.int .i64 (l : Int)) := (b1.cell (p := ⟨w.heap.size, 1, none⟩) (by simp)).trans (by simp)
  have c2 : w1.cell? ⟨w.heap.size, 2, none⟩ = some (.int .i64 (d : Int)) := (b1.cell (p := ⟨w.heap.size, 2, none⟩) (by simp)).trans (by simp)
  have hs1 : w.heap.size < w1.heap.size := by have := b1.size; simp at this; omega
  go_wp2_with fail
  refine Calls.mono (k2.out _) ?_
  rintro e w2 ⟨rfl, b2⟩
  have c3 : w2.cell? ⟨w.heap.size, 2, none⟩ = some (.int .i64 (d : Int)) := (b2.cell (p := ⟨w.heap.size, 2, none⟩) hs1).trans c2
  go_wp2_with fail
  refine Calls.mono (k3.out _) ?_
  rintro e w3 ⟨rfl, b3⟩
  go_wp2
  go_ret
  have B0 := (Below.refl w.heap.size w).alloc (Nat.le_refl _) (.cells #[.int .i64 (a : Int), .int .i64 (l : Int), .int .i64 (d : Int)] 125)
  have B1 := B0.trans (b1.mono B0.size)
  have B2 := B1.trans (b2.mono B1.size)
  exact ⟨rfl, B2.trans (b3.mono B2.size)⟩

theorem loB_size (t s : ByteArray) : (loB t s).size ≤ s.size + 1 := by
  have o1 : (⟨#[1]⟩ : ByteArray).size = 1 := rfl
  have o0 : (⟨#[0]⟩ : ByteArray).size = 1 := rfl
  unfold loB
  split
  · rename_i h
    rw [ByteArray.size_append, ByteArray.size_append]; omega
  · rw [ByteArray.size_append]; omega
set_option maxRecDepth 100000 in
set_option maxHeartbeats 800000 in
theorem wloose_any (t s : ByteArray) (w : World) (ht : t.size ≤ maxLen) (hs : s.size ≤ 500) :
    Calls Try.prog 66 #[.string t, .string s] w fun e w' => e = .returned (.string (loB t s)) ∧ Below w.heap.size w w' := by
  have HL := hid (show loB t s = if (sqAns t s).2 = 0 ∧ (ctB (sqAns t s).1.size).size + (sqAns t s).1.size < s.size then ⟨#[1]⟩ ++ ctB (sqAns t s).1.size ++ (sqAns t s).1 else ⟨#[0]⟩ ++ s from rfl)
  have o1 : (⟨#[1]⟩ : ByteArray).size = 1 := rfl
  have o0 : (⟨#[0]⟩ : ByteArray).size = 1 := rfl
  have hl5 : ¬ 500 < s.size := by omega
  have hz := zeroV48
  cases hT : isTB t
  · have HA := hid (show sqAns t s = (⟨#[]⟩, 3) from by unfold sqAns; rw [if_neg hl5, if_pos hT])
    rw [HA.out, if_neg (by simp)] at HL
    have hcall := hid (lay_no t w ht hT)
    clear hT
    go_enter Try.func66, Try.ntmps66
    go_wp2_with fail
    refine Calls.mono hcall.out ?_
    rintro e w1 ⟨rfl, b1⟩
    have r1 : (w1.alloc (.cells zero48 135)).rowIs w1.heap.size 135 384 zeroRow := row48 w1
    go_wp2_with (refine wpList_store_rowIs rfl 135 (.tmp 6) (.tmp 16) rfl w1.heap.size rfl 135 384 zeroRow zeroRow r1 rfl Try.size48 (fun i _ => layRow_one _ _ _ i) ?_; intro w2 q2 b2 o2 s2)
    go_ret
    exact ⟨ret_str3 HL.out.symm, (b1.alloc b1.size _).trans (b2.mono b1.size)⟩
  · have hok := tok hT
    have hcall := hid (lay_yes t w ht hT)
    have HA := hid (show sqAns t s = if allSh t s = false then (⟨#[]⟩, 4) else (strN (packL (encB t s)), 0) from by unfold sqAns; rw [if_neg hl5, if_neg (by rw [hT]; simp)])
    have HW := hid (fun b w h => write_any t s b w h hok (by omega))
    have HSZ := hid (fun (h : allSh t s = true) => (back_math (t := t) (x := s) hT h (by omega)).2.2.1)
    clear hT hok
    go_enter Try.func66, Try.ntmps66
    go_wp2_with fail
    refine Calls.mono hcall.out ?_
    rintro e w1 ⟨rfl, b1⟩
    have r1 : (w1.alloc (.cells zero48 135)).rowIs w1.heap.size 135 384 zeroRow := row48 w1
    go_wp2_with (refine wpList_store_rowIs rfl 135 (.tmp 6) (.tmp 16) rfl w1.heap.size rfl 135 384 zeroRow (tabRow t) r1 rfl Try.size48 (fun i _ => layRow_one _ _ _ i) ?_; intro w2 q2 b2 o2 s2)
    have hcw := hid (HW.out w1.heap.size w2 q2)
    have hb2 : Below w.heap.size w w2 := (b1.alloc b1.size _).trans (b2.mono b1.size)
    clear hcall r1 b1 b2 q2 o2 s2
    cases hA : allSh t s
    · have e1 : sqz t s = (⟨#[]⟩, false) := by unfold sqz; rw [hA]; rfl
      rw [e1] at hcw
      rw [if_pos hA] at HA
      rw [HA.out, if_neg (by simp)] at HL
      clear hA e1 HSZ
      refine Calls.mono hcw.out ?_
      rintro e w3 ⟨rfl, b3⟩
      go_wp2
      go_ret
      exact ⟨ret_str3 HL.out.symm, hb2.trans (b3.mono hb2.size)⟩
    · have e1 : sqz t s = (strN (packL (encB t s)), true) := by unfold sqz; rw [hA]; rfl
      have hsz := HSZ.out hA
      rw [e1] at hcw
      rw [if_neg (by rw [hA]; simp)] at HA
      rw [HA.out] at HL
      clear hA e1 HSZ HA
      generalize strN (packL (encB t s)) = st at *
      simp only [true_and] at HL
      have k1 := hid (fun w => cwrite_any st.size w (by omega))
      have z1 := ctB_size st.size
      generalize ctB st.size = cm at *
      refine Calls.mono hcw.out ?_
      rintro e w3 ⟨rfl, b3⟩
      by_cases hlt : cm.size + st.size < s.size
      · rw [if_pos hlt] at HL
        have hlt' : (1 : Int) + (cm.size : Int) + (st.size : Int) < 1 + (s.size : Int) := by omega
        have hlt2 : 1 + cm.size + st.size < 1 + s.size := by omega
        go_wp2_with fail
        refine Calls.mono (k1.out _) ?_
        rintro e w4 ⟨rfl, b4⟩
        go_wp2
        go_ret
        have B3 := hb2.trans (b3.mono hb2.size)
        exact ⟨ret_str3 HL.out.symm, B3.trans (b4.mono B3.size)⟩
      · rw [if_neg hlt] at HL
        have hlt' : ¬ (1 : Int) + (cm.size : Int) + (st.size : Int) < 1 + (s.size : Int) := by omega
        have hlt2 : ¬ 1 + cm.size + st.size < 1 + s.size := by omega
        go_wp2_with fail
        refine Calls.mono (k1.out _) ?_
        rintro e w4 ⟨rfl, b4⟩
        go_wp2
        go_ret
        have B3 := hb2.trans (b3.mono hb2.size)
        exact ⟨ret_str3 HL.out.symm, B3.trans (b4.mono B3.size)⟩

set_option maxRecDepth 100000 in
set_option maxHeartbeats 1600000 in
theorem body_any (t c r : ByteArray) (w : World) (ht : t.size ≤ maxLen) (hc : c.size ≤ 500) (hr : r.size ≤ 500) :
    Calls Try.prog 60 #[.string t, .string c, .string r] w fun e w' => e = .returned (.string (enBody t c r)) ∧ Below w.heap.size w w' := by
  have HB := hid (enBody_sp t c r)
  have HS := hid (split_any c r w hc hr)
  obtain ⟨hbd, hgd⟩ := spA_bd c r hc hr
  rw [HB.out]
  clear HB
  generalize spA c r = Q at *
  obtain ⟨lo, st⟩ := Q
  simp only at hbd hgd HS ⊢
  have HG := hid hgd
  clear hgd
  have k1 := hid (fun w => cwrite_any lo.size w (by omega))
  have k2 := hid (fun w => wloose_any t lo w ht (by omega))
  have k3 := hid (fun w => cwrite_any st.length w (by omega))
  have z1 := ctB_size lo.size
  have z2 := loB_size t lo
  have z3 := ctB_size st.length
  generalize ctB lo.size = C1 at *
  generalize loB t lo = C2 at *
  generalize ctB st.length = C3 at *
  have HT0 := hid (show C1 ++ C2 ++ C3 = C1 ++ C2 ++ C3 ++ stTo st 0 from by
    show _ = _ ++ (⟨#[]⟩ : ByteArray)
    exact ByteArray.append_empty.symm)
  have HTS := hid (fun i => show stTo st (i + 1) = stTo st i ++ cpB (st.getD i (0, 0, 0)) from rfl)
  have HTZ := hid (fun i => stTo_size st i)
  have hC : (C1 ++ C2 ++ C3).size = C1.size + C2.size + C3.size := by rw [ByteArray.size_append, ByteArray.size_append]
  generalize stTo st = TT at *
  generalize hCC : C1 ++ C2 ++ C3 = CC at *
  have HCC := hid hCC
  clear hCC
  go_enter Try.func60, Try.ntmps60
  go_wp2_with fail
  refine Calls.mono HS.out ?_
  rintro e w0 ⟨v, rfl, hown, b0⟩
  obtain ⟨ao, cap, rfl, hst⟩ := st_form hown
  have HST := hid hst
  clear hown hst
  go_wp2_with fail
  refine Calls.mono (k1.out _) ?_
  rintro e w1 ⟨rfl, b1⟩
  go_wp2_with fail
  refine Calls.mono (k2.out _) ?_
  rintro e w2 ⟨rfl, b2⟩
  go_wp2_with fail
  refine Calls.mono (k3.out _) ?_
  rintro e w3 ⟨rfl, b3⟩
  have B1 := b1.trans (b2.mono b1.size)
  have B2 := B1.trans (b3.mono B1.size)
  clear b1 b2 b3 k1 k2 k3 HS
  go_wp2_with fail
  rw [HCC.out]
  go_loopw [9, 10] (fun bv iv wr => ∃ i : Nat, i ≤ st.length ∧ iv = .int .i64 i ∧ bv = .string (CC ++ TT i) ∧ Below w0.heap.size w0 wr) (fun _ iv _ => st.length - (intOf iv).toNat)
  case atStart => exact ⟨0, Nat.zero_le _, rfl, by rw [← HT0.out], B2⟩
  case round =>
    obtain ⟨i, hi, rfl, rfl, hb3⟩ := hrel
    have hTz := HTZ.out i
    have hCT : (CC ++ TT i).size = CC.size + (TT i).size := ByteArray.size_append
    have hs3 := hb3.size
    by_cases hlt : i < st.length
    · obtain ⟨g, rfl, hg, c0, c1, c2⟩ := HST.out i hlt
      have HNX := hid (HTS.out i)
      obtain ⟨g1, g2, g3, g4⟩ := HG.out (st.getD i (0, 0, 0)) (by rw [List.getD_eq_getElem?_getD, List.getElem?_eq_getElem hlt]; exact List.getElem_mem hlt)
      have hpz := cpB_size (st.getD i (0, 0, 0))
      have d0 : wr.cell? ⟨g, i * 3, none⟩ = _ := (hb3.cell (p := ⟨g, i * 3, none⟩) hg).trans c0
      have d1 : wr.cell? ⟨g, i * 3 + 1, none⟩ = _ := (hb3.cell (p := ⟨g, i * 3 + 1, none⟩) hg).trans c1
      have d2 : wr.cell? ⟨g, i * 3 + 2, none⟩ = _ := (hb3.cell (p := ⟨g, i * 3 + 2, none⟩) hg).trans c2
      clear c0 c1 c2
      generalize st.getD i (0, 0, 0) = x at *
      obtain ⟨xa, xl, xd⟩ := x
      simp only at g1 g2 g3 g4 d0 d1 d2
      have kc := hid (wstep_any xa xl xd wr g1 g2 g3 g4)
      generalize cpB (xa, xl, xd) = PB at *
      go_wp2_with (go_at_call 67; refine Calls.mono kc.out ?_; rintro e w' ⟨rfl, b4⟩)
      go_roundw
      case rel => exact ⟨i + 1, by omega, by go_num, by rw [HNX.out, ByteArray.append_assoc], hb3.trans (b4.mono hs3)⟩
      case measure => simp [intOf]; omega
    · have HI := hid (show i = st.length from by omega)
      go_wp2
      go_ret
      exact ⟨ret_str3 (by rw [HI.out]), b0.trans (hb3.mono b0.size)⟩
end Go.Proofs.Ytnconbpneimjiaa

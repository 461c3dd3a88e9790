/-
  P8, P9, P13: the law Spoilt.
-/
import Derived.Test.YtnconbpneimjiaaStoProg
import Derived.Test.YtnconbpneimjiaaKeepFile
import Derived.Test.YtnconbpneimjiaaFileParse
import Derived.Laws.IdiomStrings
namespace Go.Proofs.Ytnconbpneimjiaa
open Go.RowKit Go.PlainAid

/-- The program's store, its blocks from B on. -/
def PSt (w : World) (B p : Nat) : Prop := ∃ F room l, PS w p F room l ∧ LogOk l ∧ l.length < 1800000000000 ∧ ∀ k, F k → B ≤ k
theorem progNew_one (w : World) :
    Calls Try.prog 9 #[.int .i64 1] w fun e w' => ∃ p, e = .returned (.tuple #[.pointer (some ⟨p, 0, none⟩), .int .i64 0]) ∧ PSt w' w.heap.size p ∧ Below w.heap.size w w' := by
  refine Calls.mono (pg_new 1 w (by omega)) ?_
  rintro e w' ⟨p, F, rfl, h1, h2, h3⟩
  exact ⟨p, rfl, ⟨F, 1, [], h1, LogOk.nil, by simp, h2⟩, h3⟩
theorem progReg_bad (B p : Nat) (g : ByteArray) (w : World) (h : PSt w B p) (hB : B ≤ w.heap.size) (hg : ¬ pOk g) (hs : g.size ≤ maxLen) :
    Calls Try.prog 10 #[.pointer (some ⟨p, 0, none⟩), .string g] w fun e w' => e = .returned (.tuple #[.int .i64 0, .int .i64 6]) ∧ Below B w w' := by
  obtain ⟨F, room, l, h1, h2, h3, h4⟩ := h
  have hA : rgAns l room g = (0, 6, l) := by
    have : pOkB g = false := by
      cases hq : pOkB g
      · rfl
      · exact absurd ((pOkB_iff g).1 hq) hg
    unfold rgAns; rw [if_pos this]
  have H := pg_register p F room l g w h1 (KN.of_len h3) h2 hs
  rw [hA] at H
  refine Calls.mono H ?_
  rintro e w' ⟨rfl, F', r, hc, hgr⟩
  exact ⟨rfl, hc.below hB h4⟩

/-- The bytes of a text, one of them another. -/
def spL (f : ByteArray) (i v : Nat) : List Nat := (List.range f.size).map fun j => if j = i then v else btn f j
theorem spL_lt (f : ByteArray) (i v : Nat) (hv : v < 256) : ∀ x ∈ spL f i v, x < 256 := by
  intro x hx
  simp only [spL, List.mem_map] at hx
  obtain ⟨j, _, rfl⟩ := hx
  split
  · exact hv
  · exact btn_lt _ _
theorem spL_len (f : ByteArray) (i v : Nat) : (spL f i v).length = f.size := by simp [spL]
theorem sp_btn (f : ByteArray) (i v : Nat) (hv : v < 256) (j : Nat) (hj : j < f.size) : btn (strN (spL f i v)) j = if j = i then v else btn f j := by
  rw [strN_btn _ (spL_lt f i v hv)]
  simp [spL, hj]
theorem sp_no {f : ByteArray} {i v : Nat} (h : pOk f) (hi : i < f.size) (hv : v < 256) (hd : v ≠ btn f i) : ¬ pOk (strN (spL f i v)) := by
  have hs : (strN (spL f i v)).size = f.size := by rw [strN_size, spL_len]
  refine spoilt_no h hs hi (by rw [sp_btn f i v hv i hi, if_pos rfl]; exact hd) (fun j hj => ?_)
  rcases Nat.lt_or_ge j f.size with c | c
  · rw [sp_btn f i v hv j c, if_neg hj]
  · unfold btn
    rw [bt_end _ (by omega), bt_end _ (by omega)]
theorem bt_row (s : ByteArray) (cap j : Nat) (hj : j < s.size) : (bytesRow s cap)[j]? = some (.int .u8 (btn s j : Int)) := by
  rw [bytesRow_at s cap j hj]
  have := get_btn s j hj
  exact congrArg (fun z => some (Value.int .u8 z)) this
/-- '[]byte(f)': a new row of the call's own. -/
theorem to_bytes (f : ByteArray) (w : World) : ∃ cap W, (convert 9 29 (.string f)).run Try.prog w = .ok (.slice (some ⟨w.heap.size, 0, none⟩) f.size cap) W ∧ (∀ j, j < f.size → W.cell? ⟨w.heap.size, j, none⟩ = some (.int .u8 (btn f j : Int))) ∧ (∀ j, j < f.size → W.frozen? ⟨w.heap.size, j, none⟩ = false) ∧ Below w.heap.size w W ∧ w.heap.size < W.heap.size := by
  refine ⟨_, _, run_bytes_of_string w 9 29 5 f Try.underlying9 Try.underlying29 Try.underlying5, fun j hj => ?_, fun j hj => ?_, ?_, ?_⟩
  · show (w.drew.alloc _).cell? ⟨w.drew.heap.size, j, none⟩ = _
    rw [cell_of_row _ _ _ _ _ _ (heap_alloc_new w.drew _)]
    exact bt_row f _ j hj
  · have hb : (bytesRow f (grownCap w f.size 0 5)).size ≥ f.size := by
      unfold bytesRow
      simp only [Array.size_append, Array.size_map]
      have : f.data.size = f.size := rfl
      omega
    have hh := heap_alloc_new w.drew (.cells (bytesRow f (grownCap w f.size 0 5)) 5 ((bytesRow f (grownCap w f.size 0 5)).size, (bytesRow f (grownCap w f.size 0 5)).size + 1))
    have hh' : (w.drew.alloc (.cells (bytesRow f (grownCap w f.size 0 5)) 5 ((bytesRow f (grownCap w f.size 0 5)).size, (bytesRow f (grownCap w f.size 0 5)).size + 1))).heap[w.heap.size]? = _ := hh
    simp only [World.frozen?]
    rw [hh']
    simp
    omega
  · exact (Below.refl _ _).drew.alloc (Nat.le_refl _) _
  · simp
theorem spoilt_conv (f : ByteArray) (i v cap g : Nat) (W : World) (hc : ∀ j, j < f.size → W.cell? ⟨g, j, none⟩ = some (.int .u8 (btn f j : Int))) (hi : i < f.size) (w' : World) (hb : w'.heap[g]? = (W.setCell ⟨g, i, none⟩ (.int .u8 (v : Int))).heap[g]?) :
    (convert 29 9 (.slice (some ⟨g, 0, none⟩) f.size cap)).run Try.prog w' = .ok (.string (strN (spL f i v))) w' := by
  refine run_convert_bytes_arg w' 29 5 Try.underlying29 Try.underlying5 g 0 f.size cap (ints (spL f i v)) (by rw [ints_len, spL_len]) (fun j hj => ?_) 9 Try.underlying9
  rw [Nat.zero_add]
  have e1 : w'.cell? ⟨g, j, none⟩ = (W.setCell ⟨g, i, none⟩ (.int .u8 (v : Int))).cell? ⟨g, j, none⟩ := World.cell?_of_block hb
  rw [e1]
  by_cases c : j = i
  · subst c
    rw [World.cell?_setCell_same (w := W) (a := ⟨g, j, none⟩) (v := .int .u8 (v : Int)) (h := hc j hj)]
    simp [ints, spL, hj]
  · rw [World.cell?_setCell_other (w := W) (a := ⟨g, i, none⟩) (b := ⟨g, j, none⟩) (v := .int .u8 (v : Int)) (h := by simp <;> exact fun q => c q.symm), hc j hj]
    simp [ints, spL, hj, c]

set_option maxRecDepth 100000 in
set_option maxHeartbeats 1600000 in
theorem spoilt_law (id : Int) (text content : ByteArray) (at' to : Int) (w : World) (hi : (Lit.int .i64 id).wf = true) (ht : text.size ≤ maxLen) (hc : content.size ≤ maxLen) (ha : (Lit.int .i64 at').wf = true) (hto : (Lit.int .i64 to).wf = true) :
    Calls Try.prog 3 #[.int .i64 id, .string text, .string content, .int .i64 at', .int .i64 to] w fun e w' => e = .returned (.bool true) ∧ Below w.heap.size w w' := by
  have bi := bounds_i64 hi
  have ba := bounds_i64 ha
  have bt' := bounds_i64 hto
  obtain ⟨p1, p2, p3, p4⟩ := kFile_ok id text content
  have hb13 := pOk_big p1
  have K1 := hid (keepFile_any id text content w bi.1 bi.2 ht hc)
  have K2 := hid (fun w => parse_any (kFile id text content) w (by unfold maxLen; omega))
  have K3 := hid (fun w => pk_any id 65536 w bi.1 bi.2 (by omega) (by omega))
  have K4 := hid (fun w => someN_any content 500 w hc (by omega))
  have htw : 2 ≤ (pAns (kFile id text content)).2.1.size := by
    rw [pAns_yes p1]; exact isTB_two p1.2.2.1
  have hpa : pAns (kFile id text content) = ((pk id 65536 : Int), (pAns (kFile id text content)).2.1, smN content 500, 0) := by
    rw [← p4, ← p2, pAns_yes p1]
  rw [hpa] at K2
  simp only [parV] at K2
  have K5 := hid (fun w => pk_any at' (kFile id text content).size w ba.1 ba.2 (by omega) (by omega))
  have hil := pk_lt at' (n := (kFile id text content).size) (by omega)
  have K6 := hid (fun w => pk_any to 256 w bt'.1 bt'.2 (by omega) (by omega))
  have hvl := pk_lt to (n := 256) (by omega)
  have HNO := hid (fun v (hv : v < 256) (hd : v ≠ btn (kFile id text content) (pk at' (kFile id text content).size)) => sp_no p1 hil hv hd)
  have hszI : ((kFile id text content).size : Int) ≤ 1000 := by omega
  clear hpa p1 p2 p4 hi ha hto
  generalize (pAns (kFile id text content)).2.1 = T at *
  generalize hF : kFile id text content = F at *
  clear hF
  generalize smN content 500 = C at *
  generalize pk id 65536 = I at *
  generalize pk at' F.size = i at *
  generalize pk to 256 = v at *
  have hT2 : decide ((T.size : Int) < 2) = false := by simp; omega
  have hCC : (C.toList == C.toList) = true := by simp
  have bF := btn_lt F i
  have hsz13 := hb13.1
  clear hb13
  by_cases hv : v = btn F i
  · obtain ⟨V, hV⟩ : ∃ V, V = (v + 1) % 256 := ⟨_, rfl⟩
    have hVi : ((v : Int) + 1) % 256 = (V : Int) := by omega
    have hV2 : V < 256 := by omega
    have hV3 : V ≠ btn F i := by omega
    have hvq : ((v : Int) == (btn F i : Int)) = true := by simp [hv]
    clear hV hv
    have NO := hid (HNO.out V (by omega) (by omega))
    clear HNO
    go_enter Try.func3, Try.ntmps3
    go_wp2_with fail
    refine Calls.mono K1.out ?_
    rintro e w1 ⟨rfl, b1⟩
    go_wp2_with fail
    refine Calls.mono (K2.out _) ?_
    rintro e w2 ⟨rfl, b2⟩
    go_wp2_with fail
    refine Calls.mono (K3.out _) ?_
    rintro e w3 ⟨rfl, k3⟩
    rw [k3]
    clear k3 w3
    go_wp2_with fail
    refine Calls.mono (K4.out _) ?_
    rintro e w3 ⟨rfl, k3⟩
    rw [k3]
    clear k3 w3
    obtain ⟨cap, W, hcv, hcell, hfro, bW, hWs⟩ := to_bytes F w2
    go_wp2_with fail
    refine Calls.mono (K5.out _) ?_
    rintro e w3 ⟨rfl, k3⟩
    rw [k3]
    clear k3 w3
    go_wp2_with fail
    refine Calls.mono (K6.out _) ?_
    rintro e w3 ⟨rfl, k3⟩
    rw [k3]
    clear k3 w3
    have qc := hcell i hil
    have qf := hfro i hil
    have hili : (i : Int) < (F.size : Int) := by omega
    have hcv2 := spoilt_conv F i V cap w2.heap.size W hcell hil (W.setCell ⟨w2.heap.size, i, none⟩ (.int .u8 (V : Int))) rfl
    have HCV := hid (fun w' hb => spoilt_conv F i V cap w2.heap.size W hcell hil w' hb)
    have hss : (strN (spL F i V)).size = F.size := by rw [strN_size, spL_len]
    have K7 := hid (fun w => parse_any (strN (spL F i V)) w (by unfold maxLen; omega))
    rw [pAns_no NO.out] at K7
    simp only [parV] at K7
    have KR := hid (fun B p w (h : PSt w B p) hB => progReg_bad B p (strN (spL F i V)) w h hB NO.out (by unfold maxLen; omega))
    generalize strN (spL F i V) = G at *
    clear hcell hfro
    have hgW : w2.heap.size < (W.setCell ⟨w2.heap.size, i, none⟩ (.int .u8 (V : Int))).heap.size := by simpa using hWs
    go_wp2_with fail
    refine Calls.mono (K7.out _) ?_
    rintro e w5 ⟨rfl, b5⟩
    go_wp2_with fail
    refine Calls.mono (progNew_one _) ?_
    rintro e w6 ⟨p, rfl, hP, b6⟩
    have hcv3 := HCV.out w6 ((b6.block w2.heap.size (Nat.lt_of_lt_of_le hgW b5.size)).trans (b5.block w2.heap.size hgW))
    go_wp2_with fail
    refine Calls.mono (KR.out _ _ _ hP b6.size) ?_
    rintro e w7 ⟨rfl, b7⟩
    go_wp2
    go_ret
    have B2 := b1.trans (b2.mono b1.size)
    have B3 := B2.trans (bW.mono B2.size)
    have B4 := B3.setCell (p := ⟨w2.heap.size, i, none⟩) (show w.heap.size ≤ w2.heap.size from B2.size) (.int .u8 (V : Int))
    have B5 := B4.trans (b5.mono B4.size)
    have B6 := B5.trans (b6.mono B5.size)
    exact ⟨by simp, B6.trans (b7.mono B5.size)⟩
  · obtain ⟨V, hV⟩ : ∃ V, V = v := ⟨_, rfl⟩
    have hV2 : V < 256 := by omega
    have hV3 : V ≠ btn F i := by omega
    subst hV
    have hvq : ((V : Int) == (btn F i : Int)) = false := beq_eq_false_iff_ne.2 (by omega)
    clear hv
    have NO := hid (HNO.out V (by omega) (by omega))
    clear HNO
    go_enter Try.func3, Try.ntmps3
    go_wp2_with fail
    refine Calls.mono K1.out ?_
    rintro e w1 ⟨rfl, b1⟩
    go_wp2_with fail
    refine Calls.mono (K2.out _) ?_
    rintro e w2 ⟨rfl, b2⟩
    go_wp2_with fail
    refine Calls.mono (K3.out _) ?_
    rintro e w3 ⟨rfl, k3⟩
    rw [k3]
    clear k3 w3
    go_wp2_with fail
    refine Calls.mono (K4.out _) ?_
    rintro e w3 ⟨rfl, k3⟩
    rw [k3]
    clear k3 w3
    obtain ⟨cap, W, hcv, hcell, hfro, bW, hWs⟩ := to_bytes F w2
    go_wp2_with fail
    refine Calls.mono (K5.out _) ?_
    rintro e w3 ⟨rfl, k3⟩
    rw [k3]
    clear k3 w3
    go_wp2_with fail
    refine Calls.mono (K6.out _) ?_
    rintro e w3 ⟨rfl, k3⟩
    rw [k3]
    clear k3 w3
    have qc := hcell i hil
    have qf := hfro i hil
    have hili : (i : Int) < (F.size : Int) := by omega
    have hcv2 := spoilt_conv F i V cap w2.heap.size W hcell hil (W.setCell ⟨w2.heap.size, i, none⟩ (.int .u8 (V : Int))) rfl
    have HCV := hid (fun w' hb => spoilt_conv F i V cap w2.heap.size W hcell hil w' hb)
    have hss : (strN (spL F i V)).size = F.size := by rw [strN_size, spL_len]
    have K7 := hid (fun w => parse_any (strN (spL F i V)) w (by unfold maxLen; omega))
    rw [pAns_no NO.out] at K7
    simp only [parV] at K7
    have KR := hid (fun B p w (h : PSt w B p) hB => progReg_bad B p (strN (spL F i V)) w h hB NO.out (by unfold maxLen; omega))
    generalize strN (spL F i V) = G at *
    clear hcell hfro
    have hgW : w2.heap.size < (W.setCell ⟨w2.heap.size, i, none⟩ (.int .u8 (V : Int))).heap.size := by simpa using hWs
    go_wp2_with fail
    refine Calls.mono (K7.out _) ?_
    rintro e w5 ⟨rfl, b5⟩
    go_wp2_with fail
    refine Calls.mono (progNew_one _) ?_
    rintro e w6 ⟨p, rfl, hP, b6⟩
    have hcv3 := HCV.out w6 ((b6.block w2.heap.size (Nat.lt_of_lt_of_le hgW b5.size)).trans (b5.block w2.heap.size hgW))
    go_wp2_with fail
    refine Calls.mono (KR.out _ _ _ hP b6.size) ?_
    rintro e w7 ⟨rfl, b7⟩
    go_wp2
    go_ret
    have B2 := b1.trans (b2.mono b1.size)
    have B3 := B2.trans (bW.mono B2.size)
    have B4 := B3.setCell (p := ⟨w2.heap.size, i, none⟩) (show w.heap.size ≤ w2.heap.size from B2.size) (.int .u8 (V : Int))
    have B5 := B4.trans (b5.mono B4.size)
    have B6 := B5.trans (b6.mono B5.size)
    exact ⟨by simp, B6.trans (b7.mono B5.size)⟩
end Go.Proofs.Ytnconbpneimjiaa

/-
  P14: the walk of Shelf.Lay.
-/
import Derived.Test.YtnconbpneimjiaaStoLook
namespace Go.Proofs.Ytnconbpneimjiaa
open Go.RowKit Go.PlainAid

theorem Try.infoSpot : (Try.prog.info? 109).map (fun i => (i.zero, i.size, i.bytes)) = some (some (.agg #[.string ⟨#[]⟩, .string ⟨#[]⟩, .int .i64 0, .int .i64 0]), 4, 48) := by kernel_rfl
/-- A link set. -/
def setLk (sp : Nat → Spt) (a d x : Nat) (i : Nat) : Spt := if i = a then (if d = 0 then { sp i with b0 := x } else { sp i with b1 := x }) else sp i
/-- A spot more. -/
def newSp (sp : Nat → Spt) (n : Nat) (k t : ByteArray) (i : Nat) : Spt := if i = n then ⟨k, t, 0, 0⟩ else sp i
theorem addSp_is (sp : Nat → Spt) (n a d : Nat) (k t : ByteArray) (h : a < n ∨ (n = 0 ∧ a = 0 ∧ d = 0)) : setLk (newSp sp n k t) a d n = addSp sp n a d k t := by
  funext i
  unfold setLk newSp addSp
  by_cases hi : i = n
  · by_cases ha : i = a
    · rcases h with h | ⟨h1, h2, h3⟩
      · omega
      · subst h2 h3
        have h0 : i = 0 := ha
        rw [if_pos ha, if_pos hi, if_pos hi, if_pos rfl, h1]
    · rw [if_neg ha, if_pos hi, if_pos hi]
  · by_cases ha : i = a
    · rw [if_pos ha, if_neg hi, if_neg hi, if_pos ha]
    · rw [if_neg ha, if_neg hi, if_neg hi, if_neg ha]
section
variable {w w2 : World} {p B : Nat} {room : Int} {vb vs : Value} {fl : Nat → ByteArray} {m : Nat} {sp : Nat → Spt} {n : Nat}
theorem PMm.cellS {g cap : Nat} {sp' : Nat → Spt} (h : PMm w p B room vb (.slice (some ⟨g, 0, none⟩) n cap) fl m sp n) (q : Nat) (u : Value) (hx : (cells4 (spVs sp) n).set q u = cells4 (spVs sp') n) : PMm (w.setCell ⟨g, q, none⟩ u) p B room vb (.slice (some ⟨g, 0, none⟩) n cap) fl m sp' n := by
  have hgp : g ≠ p := fun e => h.ns (by rw [e]; rfl)
  have hs := (World.ownsRow.stored h.sh q u).1
  rw [hx] at hs
  refine ⟨World.rowIs.setOther h.row (a := ⟨g, q, none⟩) (by show p ≠ g; omega) u, h.lo, ownsRow_setCell_other h.bd (a := ⟨g, q, none⟩) ?_ u, hs⟩
  rcases h.apart with e | e
  · rw [e]; simp
  · exact e
theorem PMm.setText {g cap : Nat} (h : PMm w p B room vb (.slice (some ⟨g, 0, none⟩) n cap) fl m sp n) (a : Nat) (t : ByteArray) : PMm (w.setCell ⟨g, a * 4 + 1, none⟩ (.string t)) p B room vb (.slice (some ⟨g, 0, none⟩) n cap) fl m (setTx sp a t) n := by
  refine h.cellS (a * 4 + 1) (.string t) (cells4_set _ _ _ _ _ _ (by omega) (fun x y _ hy => ?_))
  unfold spVs spV setTx
  by_cases hx : x = a
  · have h4 : y = 0 ∨ y = 1 ∨ y = 2 ∨ y = 3 := by omega
    rcases h4 with rfl | rfl | rfl | rfl <;> simp [hx]
  · simp [hx]
theorem PMm.setLink {g cap : Nat} (h : PMm w p B room vb (.slice (some ⟨g, 0, none⟩) n cap) fl m sp n) (a d x : Nat) (hd : d < 2) : PMm (w.setCell ⟨g, a * 4 + 2 + d, none⟩ (.int .i64 (x : Int))) p B room vb (.slice (some ⟨g, 0, none⟩) n cap) fl m (setLk sp a d x) n := by
  refine h.cellS (a * 4 + 2 + d) (.int .i64 (x : Int)) ?_
  rw [Nat.add_assoc]
  refine cells4_set _ _ _ _ _ _ (by omega) (fun i y _ hy => ?_)
  unfold spVs spV setLk
  by_cases hx : i = a
  · have h4 : y = 0 ∨ y = 1 ∨ y = 2 ∨ y = 3 := by omega
    have hd2 : d = 0 ∨ d = 1 := by omega
    rcases hd2 with rfl | rfl <;> rcases h4 with rfl | rfl | rfl | rfl <;> simp [hx]
  · simp [hx]
theorem PMm.pushS {o : Obj} {vs' : Value} {k t : ByteArray} (h : PMm w p B room vb vs fl m sp n) (hg : (w.alloc o).grownBy w2 vs.ownBlock) (ho : w2.ownsRow B 109 4 vs' (n + 1) (cells4 (spVs sp) n ++ [.string k, .string t, .int .i64 0, .int .i64 0])) : PMm (w2.setCell ⟨p, 2, none⟩ vs') p B room vb vs' fl m (newSp sp n k t) (n + 1) := by
  obtain ⟨h1, h2⟩ := h.grownS hg
  have e : cells4 (spVs sp) n ++ [.string k, .string t, .int .i64 0, .int .i64 0] = cells4 (spVs (newSp sp n k t)) (n + 1) := by
    have := cells4_snoc (spVs sp) (spVs (newSp sp n k t)) n (fun a b ha _ => by unfold spVs newSp; rw [if_neg (by omega)])
    rw [← this]
    have hN : newSp sp n k t n = ⟨k, t, 0, 0⟩ := if_pos rfl
    unfold spVs
    rw [hN]; rfl
  rw [e] at ho
  exact ⟨World.rowIs.congr (World.rowIs.set h1 2 vs') (fun i hi => by match i, hi with | 0, _ => rfl | 1, _ => rfl | 2, _ => rfl), h.lo, ownsRow_setCell_below h2 (a := ⟨p, 2, none⟩) h.lo vs', ownsRow_setCell_below ho (a := ⟨p, 2, none⟩) h.lo vs'⟩
end
/-- Where a row lies behind a call. -/
def LiesF (w : World) (v v' : Value) : Prop := ∀ g, v'.ownBlock = some g → v.ownBlock = some g ∨ w.heap.size ≤ g
theorem liesF {w : World} {v v' : Value} (h : v'.ownBlock = v.ownBlock ∨ ∃ g, v'.ownBlock = some g ∧ w.heap.size ≤ g) : LiesF w v v' := by
  intro g hg
  rcases h with e | ⟨g', e1, e2⟩
  · exact .inl (by rw [← e]; exact hg)
  · rw [e1] at hg
    have := Option.some.inj hg
    exact .inr (by omega)
section
variable {F : Nat → Prop} {w w1 w2 : World}
theorem ChgF.set (h : ChgF F w w1) (a : Addr) (u : Value) (ha : F a.block ∨ w.heap.size ≤ a.block) : ChgF F w (w1.setCell a u) := by
  refine ⟨h.os, h.tape, h.output, ?_, fun k hk hn => ?_⟩
  · have := h.size
    simp at this ⊢
    omega
  · rw [Below.heap_setCell _ _ _ _ (fun e => ?_), h.block k hk hn]
    rcases ha with q | q
    · exact hn (by rw [e]; exact q)
    · omega
theorem ChgF.dr (h : ChgF F w w1) (q : Nat) : ChgF F w (w1.drewN q) := ⟨h.os, h.tape, h.output, h.size, h.block⟩
theorem ChgF.then (h : ChgF F w w1) (b : Below w.heap.size w1 w2) : ChgF F w w2 :=
  ⟨b.os.trans h.os, b.tape.trans h.tape, b.output.trans h.output, Nat.le_trans h.size b.size, fun k hk hn => (b.block k hk).trans (h.block k hk hn)⟩
theorem ChgF.grown {o : Obj} {row : Option Nat} (h : ChgF F w w1) (hg : (w1.alloc o).grownBy w2 row) (hr : ∀ k, row = some k → F k ∨ w.heap.size ≤ k) : ChgF F w w2 := by
  have hs := h.size
  refine ⟨hg.os.trans h.os, hg.tape.trans h.tape, hg.output.trans h.output, ?_, fun k hk hn => ?_⟩
  · have := hg.size
    simp at this
    omega
  · rw [hg.block k (by simp; omega) (fun e => ?_), Below.heap_alloc _ _ _ (by omega), h.block k hk hn]
    rcases hr k e.symm with q | q
    · exact hn q
    · omega
theorem cell4_new (w : World) (a b c d : Value) (t : TypeId) : ∀ j u, [a, b, c, d][j]? = some u → (w.alloc (.cells #[a, b, c, d] t)).cell? ((⟨w.heap.size, 0, none⟩ : Addr).add j) = some u := by
  intro j u h
  match j, h with
  | 0, h => simp at h; subst h; simp [Addr.add]
  | 1, h => simp at h; subst h; simp [Addr.add]
  | 2, h => simp at h; subst h; simp [Addr.add]
  | 3, h => simp at h; subst h; simp [Addr.add]
  | j + 4, h => simp at h
theorem own_frm5 {w : World} {base size n e : Nat} {v : Value} {xs : List Value} (h : w.ownsRow base e size v n xs) (hn : 0 < n) : ∃ g cap, v = .slice (some ⟨g, 0, none⟩) n cap := by
  rcases h.2 with ⟨_, h0⟩ | ⟨g, cap, _, hv, _⟩
  · omega
  · exact ⟨g, cap, hv⟩
end
set_option maxRecDepth 100000 in
set_option maxHeartbeats 1600000 in
theorem lay_any (p B : Nat) (room : Int) (vb vs : Value) (fl : Nat → ByteArray) (m : Nat) (sp : Nat → Spt) (n : Nat) (l : List Ev) (k t : ByteArray) (w : World) (h : PMm w p B room vb vs fl m sp n) (hS : ShL l sp n) (hk : k.size ≤ maxLen) (hB : B ≤ w.heap.size) (hn : n < 2900000000000) :
    Calls Try.prog 53 #[.pointer (some ⟨p, 2, none⟩), .string k, .string t] w fun e w' => e = .returned (.tuple #[]) ∧ ∃ vs' sp' n', PMm w' p B room vb vs' fl m sp' n' ∧ ShL (l ++ [⟨3, 0, k, t⟩]) sp' n' ∧ ChgF (fun q => q = p ∨ vs.ownBlock = some q) w w' ∧ LiesF w vs vs' := by
  obtain ⟨i1, gi, gz0, gz1, gz2⟩ := info_parts Try.infoSpot
  have HF := hid (sfind_any p B room vb vs fl m sp n k w h hS.ord hk)
  have hp := h.lt
  go_enter Try.func53, Try.ntmps53
  go_wp2_with fail
  refine Calls.mono HF.out ?_
  rintro e w1 ⟨⟨f, a, d, rfl, hF⟩, b1⟩
  have hq := eRow_new w1
  have hM1 := h.below b1
  have hBl := b1.alloc b1.size (.cells #[.bool false, .int .i64 0, .int .i64 0] 105)
  have hs1 := b1.size
  have hM5' := hid (fun w5 (o5 : ∀ k, k ≠ w1.heap.size → w5.heap[k]? = (w1.alloc (.cells #[.bool false, .int .i64 0, .int .i64 0] 105)).heap[k]?) => (hM1.alloc (.cells #[.bool false, .int .i64 0, .int .i64 0] 105)).kept (w2 := w5) (fun k hk => by
    have hlt : k < w1.heap.size := by
      rcases hk with rfl | q | q
      · exact hM1.lt
      · exact (hM1.bd.lt k q).2
      · exact (hM1.sh.lt k q).2
    exact o5 k (by omega)))
  unfold endV
  cases f
  · obtain ⟨hno, hd2, hwh⟩ := hF.no rfl
    have HSL := hid (hS.add (t := t) hF 0)
    have HAD := hid (addSp_is sp n a d k t (hwh.elim (fun q => .inr q) (fun q => .inl q.1)))
    have han : a < n + 1 := hwh.elim (fun q => by omega) (fun q => by omega)
    have hdi : (d : Int) < 2 := by omega
    have hai : (a : Int) < (n : Int) + 1 := by omega
    clear hF hno hwh
    go_wp2_with (first
      | (refine wpList_store_rowIs rfl 105 (.tmp 6) (.tmp 9) rfl w1.heap.size rfl 105 3 (eRow false 0 0) (eRow false a d) hq rfl sizeEnd (fun i _ => eRow_one _ _ _ i) ?_
         intro w5 q5 b5 o5 s5
         have c0 : w5.cell? ⟨w1.heap.size, 0, none⟩ = some (.bool false) := World.rowIs.cell q5 (i := 0) (by omega)
         have hM5 := hM5'.out w5 o5
         have S5 := hid (show w5.heap.size = w1.heap.size + 1 from by simpa using s5)
         have hB5 := hid (show B ≤ w5.heap.size from by have := S5.out; omega)
         have e2 := hM5.c2
         clear s5)
      | (at_builtin; refine wpList_append_own_at _ rfl (.tmp 25) (.tmp 29) 55 rfl B 109 i1 (.agg #[.string ⟨#[]⟩, .string ⟨#[]⟩, .int .i64 0, .int .i64 0]) 4 48 Try.underlying55 gi gz0 gz1 gz2 rfl (by decide) _ _ _ rfl (hM5.sh.alloc _) ⟨_, 0, none⟩ 1 1 [.string k, .string t, .int .i64 0, .int .i64 0] rfl rfl (cell4_new _ _ _ _ _ _) (by intro u hu; simp at hu; rcases hu with rfl | rfl | rfl | rfl <;> rfl) (by unfold maxLen; omega) (by omega) (Nat.le_trans hB5.out (by simp)) ?_; intro v' w6 hown' hgrow _ hat; have m6 := hid (hM5.grownS hgrow).1; have k6 := World.rowIs.cell m6.out (i := 2) (by omega); have f6 := World.rowIs.frozen m6.out 2; have R6 := hid (hM5.pushS hgrow hown'); obtain ⟨g4, cap4, rfl⟩ := own_frm5 hown' (by omega)))
    have hrow7 := hid (show (w6.setCell ⟨p, 2, none⟩ (.slice (some ⟨g4, 0, none⟩) (n + 1) cap4)).rowIs w1.heap.size 105 3 (eRow false a d) from by
      refine World.rowIs.of_block q5 ?_
      have h51 := S5.out
      rw [Below.heap_setCell _ _ _ _ (show w1.heap.size ≠ p from by omega), hgrow.block w1.heap.size (by simp; omega) (fun e => ?_), Below.heap_alloc _ _ _ (by omega)]
      have := (hM1.sh.lt _ e.symm).2
      omega)
    have hC7 := hid (show ChgF (fun q => q = p ∨ vs.ownBlock = some q) w (w6.setCell ⟨p, 2, none⟩ (.slice (some ⟨g4, 0, none⟩) (n + 1) cap4)) from
      ((ChgF.ofBelow (hBl.trans (b5.mono hs1))).grown hgrow (fun k hk => .inl (.inr hk))).set _ _ (.inl (.inl rfl)))
    have hL7 := hid (show LiesF w vs (.slice (some ⟨g4, 0, none⟩) (n + 1) cap4) from by
      rcases hat with q | q
      · exact liesF (.inl q)
      · exact liesF (.inr ⟨_, q, by have := S5.out; simp; omega⟩))
    have hBk := hid (show vs.ownBlock = some g4 ∨ w.heap.size ≤ g4 from by
      rcases hat with q | q
      · exact .inl q.symm
      · refine .inr ?_
        have e : g4 = (w5.alloc _).heap.size := Option.some.inj q
        have := S5.out
        rw [e]; simp; omega)
    clear hown' hgrow hat k6 f6 m6
    obtain ⟨w7, hw7⟩ : ∃ w7, w7 = w6.setCell ⟨p, 2, none⟩ (.slice (some ⟨g4, 0, none⟩) (n + 1) cap4) := ⟨_, rfl⟩
    rw [← hw7] at R6 hrow7 hC7 ⊢
    clear hw7
    have c1 : w7.cell? ⟨w1.heap.size, 1, none⟩ = some (.int .i64 (a : Int)) := World.rowIs.cell hrow7.out (i := 1) (by omega)
    have c2 : w7.cell? ⟨w1.heap.size, 2, none⟩ = some (.int .i64 (d : Int)) := World.rowIs.cell hrow7.out (i := 2) (by omega)
    have x2 := R6.out.c2
    obtain ⟨ao, cap, hv, hcell⟩ := R6.out.spots
    obtain ⟨g, hao, g1, g2, g3⟩ := hcell a han
    have hgg : g = g4 := by
      rw [hao] at hv
      injection hv with h1 h2 h3
      injection h1 with h1
      injection h1 with h1
      exact h1.symm
    rw [hgg] at g1 g2 g3
    have q1 : ∃ z, w7.cell? ⟨g4, a * 4 + 2 + d, none⟩ = some z := ⟨_, by rw [Nat.add_assoc]; exact (g3 (2 + d) (by omega)).1⟩
    have f1 : w7.frozen? ⟨g4, a * 4 + 2 + d, none⟩ = false := by rw [Nat.add_assoc]; exact (g3 (2 + d) (by omega)).2
    obtain ⟨z, q1⟩ := q1
    have HR := hid (R6.out.setLink a d n hd2)
    rw [HAD.out] at HR
    clear g3 hcell hv hao
    go_region
    all_goals
      go_wp2
      go_end0
      exact ⟨rfl, _, _, _, HR.out.drew _, HSL.out, (hC7.out.set _ _ (hBk.out.elim (fun q => .inl (.inr q)) .inr)).dr _, hL7.out⟩
  · obtain ⟨ha, hka⟩ := hF.yes rfl
    have HSL := hid (hS.set (t := t) ha hka 0)
    have ha' : (a : Int) < (n : Int) := by omega
    clear hF hka
    go_wp2_with (first
      | (refine wpList_store_rowIs rfl 105 (.tmp 6) (.tmp 9) rfl w1.heap.size rfl 105 3 (eRow false 0 0) (eRow true a d) hq rfl sizeEnd (fun i _ => eRow_one _ _ _ i) ?_
         intro w5 q5 b5 o5 s5
         have c0 : w5.cell? ⟨w1.heap.size, 0, none⟩ = some (.bool true) := World.rowIs.cell q5 (i := 0) (by omega)
         have c1 : w5.cell? ⟨w1.heap.size, 1, none⟩ = some (.int .i64 (a : Int)) := World.rowIs.cell q5 (i := 1) (by omega)
         have hM5 := hM5'.out w5 o5
         have e2 := hM5.c2
         obtain ⟨ao, cap, rfl, hcell⟩ := hM5.spots
         obtain ⟨g, rfl, g1, g2, g3⟩ := hcell a ha
         have q1 : w5.cell? ⟨g, a * 4 + 1, none⟩ = some (.string (sp a).tx) := (g3 1 (by omega)).1
         have f1 := (g3 1 (by omega)).2
         have HR := hid (hM5.setText a t)
         clear g3 hcell hM5))
    go_region
    all_goals
      go_wp2
      refine bodyPost_ret (results_none Try.results53 _ _ _) rfl ?_
      exact ⟨rfl, _, _, _, HR.out.drew _, HSL.out, ((ChgF.ofBelow (hBl.trans (b5.mono hs1))).set _ _ (.inl (.inr rfl))).dr _, liesF (.inl rfl)⟩
end Go.Proofs.Ytnconbpneimjiaa

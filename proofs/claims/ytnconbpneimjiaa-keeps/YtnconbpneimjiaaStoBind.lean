/-
  P14: the walk of Shelf.Lay.
  P13: the walks of Bindings.Bind, Unbind.
-/
import Derived.Test.YtnconbpneimjiaaStoLook
import Derived.Deep.AppendLies
import Derived.Deep.RegionLaw
/-! ###  P14: the walk of Shelf.Lay. -/
namespace Go.Proofs.Ytnconbpneimjiaa
open Go.RowKit Go.PlainAid

theorem Try.infoSpot : (Try.prog.info? 109).map (fun i => (i.zero, i.size, i.bytes)) = some (some (.agg #[.string ⟨#[]⟩, .string ⟨#[]⟩, .int .i64 0, .int .i64 0]), 4, 48) := by kernel_rfl
/-- A link set. -/
def setLk (sp : Nat → Spt) (a d x : Nat) (i : Nat) : Spt := if i = a then (if d = 0 then { sp i with b0 := x } else { sp i with b1 := x }) else sp i
/-- A spot more. -/
def newSp (sp : Nat → Spt) (n : Nat) (k t : ByteArray) (i : Nat) : Spt := if i = n then ⟨k, t, 0, 0⟩ else sp i
theorem addSp_is (sp : Nat → Spt) (n a d : Nat) (k t : ByteArray) (h : a < n ∨ (n = 0 ∧ a = 0 ∧ d = 0)) : setLk (newSp sp n k t) a d n = addSp sp n a d k t := by
  funext i
  unfold setLk newSp addSp
  by_cases hi : i = n
  · by_cases ha : i = a
    · rcases h with h | ⟨h1, h2, h3⟩
      · omega
      · subst h2 h3
        have h0 : i = 0 := ha
        rw [if_pos ha, if_pos hi, if_pos hi, if_pos rfl, h1]
    · rw [if_neg ha, if_pos hi, if_pos hi]
  · by_cases ha : i = a
    · rw [if_pos ha, if_neg hi, if_neg hi, if_pos ha]
    · rw [if_neg ha, if_neg hi, if_neg hi, if_neg ha]
section
variable {w w2 : World} {p B : Nat} {room : Int} {vb vs : Value} {fl : Nat → ByteArray} {m : Nat} {sp : Nat → Spt} {n : Nat}
theorem PMm.cellS {g cap : Nat} {sp' : Nat → Spt} (h : PMm w p B room vb (.slice (some ⟨g, 0, none⟩) n cap) fl m sp n) (q : Nat) (u : Value) (hx : (cells4 (spVs sp) n).set q u = cells4 (spVs sp') n) : PMm (w.setCell ⟨g, q, none⟩ u) p B room vb (.slice (some ⟨g, 0, none⟩) n cap) fl m sp' n := by
  have hgp : g ≠ p := fun e => h.ns (by rw [e]; rfl)
  have hs := (World.ownsRow.stored h.sh q u).1
  rw [hx] at hs
  refine ⟨World.rowIs.setOther h.row (a := ⟨g, q, none⟩) (by show p ≠ g; omega) u, h.lo, ownsRow_setCell_other h.bd (a := ⟨g, q, none⟩) ?_ u, hs⟩
  rcases h.apart with e | e
  · rw [e]; simp
  · exact e
theorem PMm.setText {g cap : Nat} (h : PMm w p B room vb (.slice (some ⟨g, 0, none⟩) n cap) fl m sp n) (a : Nat) (t : ByteArray) : PMm (w.setCell ⟨g, a * 4 + 1, none⟩ (.string t)) p B room vb (.slice (some ⟨g, 0, none⟩) n cap) fl m (setTx sp a t) n := by
  refine h.cellS (a * 4 + 1) (.string t) (cells4_set _ _ _ _ _ _ (by omega) (fun x y _ hy => ?_))
  unfold spVs spV setTx
  by_cases hx : x = a
  · have h4 : y = 0 ∨ y = 1 ∨ y = 2 ∨ y = 3 := by omega
    rcases h4 with rfl | rfl | rfl | rfl <;> simp [hx]
  · simp [hx]
theorem PMm.setLink {g cap : Nat} (h : PMm w p B room vb (.slice (some ⟨g, 0, none⟩) n cap) fl m sp n) (a d x : Nat) (hd : d < 2) : PMm (w.setCell ⟨g, a * 4 + 2 + d, none⟩ (.int .i64 (x : Int))) p B room vb (.slice (some ⟨g, 0, none⟩) n cap) fl m (setLk sp a d x) n := by
  refine h.cellS (a * 4 + 2 + d) (.int .i64 (x : Int)) ?_
  rw [Nat.add_assoc]
  refine cells4_set _ _ _ _ _ _ (by omega) (fun i y _ hy => ?_)
  unfold spVs spV setLk
  by_cases hx : i = a
  · have h4 : y = 0 ∨ y = 1 ∨ y = 2 ∨ y = 3 := by omega
    have hd2 : d = 0 ∨ d = 1 := by omega
    rcases hd2 with rfl | rfl <;> rcases h4 with rfl | rfl | rfl | rfl <;> simp [hx]
  · simp [hx]
theorem PMm.pushS {o : Obj} {vs' : Value} {k t : ByteArray} (h : PMm w p B room vb vs fl m sp n) (hg : (w.alloc o).grownBy w2 vs.ownBlock) (ho : w2.ownsRow B 109 4 vs' (n + 1) (cells4 (spVs sp) n ++ [.string k, .string t, .int .i64 0, .int .i64 0])) : PMm (w2.setCell ⟨p, 2, none⟩ vs') p B room vb vs' fl m (newSp sp n k t) (n + 1) := by
  obtain ⟨h1, h2⟩ := h.grownS hg
  have e : cells4 (spVs sp) n ++ [.string k, .string t, .int .i64 0, .int .i64 0] = cells4 (spVs (newSp sp n k t)) (n + 1) := by
    have := cells4_snoc (spVs sp) (spVs (newSp sp n k t)) n (fun a b ha _ => by unfold spVs newSp; rw [if_neg (by omega)])
    rw [← this]
    have hN : newSp sp n k t n = ⟨k, t, 0, 0⟩ := if_pos rfl
    unfold spVs
    rw [hN]; rfl
  rw [e] at ho
  exact ⟨World.rowIs.congr (World.rowIs.set h1 2 vs') (fun i hi => by match i, hi with | 0, _ => rfl | 1, _ => rfl | 2, _ => rfl), h.lo, ownsRow_setCell_below h2 (a := ⟨p, 2, none⟩) h.lo vs', ownsRow_setCell_below ho (a := ⟨p, 2, none⟩) h.lo vs'⟩
end
/-- Where a row lies behind a call. -/
def LiesF (w : World) (v v' : Value) : Prop := ∀ g, v'.ownBlock = some g → v.ownBlock = some g ∨ w.heap.size ≤ g
theorem liesF {w : World} {v v' : Value} (h : v'.ownBlock = v.ownBlock ∨ ∃ g, v'.ownBlock = some g ∧ w.heap.size ≤ g) : LiesF w v v' := by
  intro g hg
  rcases h with e | ⟨g', e1, e2⟩
  · exact .inl (by rw [← e]; exact hg)
  · rw [e1] at hg
    have := Option.some.inj hg
    exact .inr (by omega)
section
variable {F : Nat → Prop} {w w1 w2 : World}
theorem ChgF.set (h : ChgF F w w1) (a : Addr) (u : Value) (ha : F a.block ∨ w.heap.size ≤ a.block) : ChgF F w (w1.setCell a u) := by
  refine ⟨h.os, h.tape, h.output, ?_, fun k hk hn => ?_⟩
  · have := h.size
    simp at this ⊢
    omega
  · rw [Below.heap_setCell _ _ _ _ (fun e => ?_), h.block k hk hn]
    rcases ha with q | q
    · exact hn (by rw [e]; exact q)
    · omega
theorem ChgF.dr (h : ChgF F w w1) (q : Nat) : ChgF F w (w1.drewN q) := ⟨h.os, h.tape, h.output, h.size, h.block⟩
theorem ChgF.then (h : ChgF F w w1) (b : Below w.heap.size w1 w2) : ChgF F w w2 :=
  ⟨b.os.trans h.os, b.tape.trans h.tape, b.output.trans h.output, Nat.le_trans h.size b.size, fun k hk hn => (b.block k hk).trans (h.block k hk hn)⟩
theorem ChgF.grown {o : Obj} {row : Option Nat} (h : ChgF F w w1) (hg : (w1.alloc o).grownBy w2 row) (hr : ∀ k, row = some k → F k ∨ w.heap.size ≤ k) : ChgF F w w2 := by
  have hs := h.size
  refine ⟨hg.os.trans h.os, hg.tape.trans h.tape, hg.output.trans h.output, ?_, fun k hk hn => ?_⟩
  · have := hg.size
    simp at this
    omega
  · rw [hg.block k (by simp; omega) (fun e => ?_), Below.heap_alloc _ _ _ (by omega), h.block k hk hn]
    rcases hr k e.symm with q | q
    · exact hn q
    · omega
theorem cell4_new (w : World) (a b c d : Value) (t : TypeId) : ∀ j u, [a, b, c, d][j]? = some u → (w.alloc (.cells #[a, b, c, d] t)).cell? ((⟨w.heap.size, 0, none⟩ : Addr).add j) = some u := by
  intro j u h
  match j, h with
  | 0, h => simp at h; subst h; simp [Addr.add]
  | 1, h => simp at h; subst h; simp [Addr.add]
  | 2, h => simp at h; subst h; simp [Addr.add]
  | 3, h => simp at h; subst h; simp [Addr.add]
  | j + 4, h => simp at h
theorem own_frm5 {w : World} {base size n e : Nat} {v : Value} {xs : List Value} (h : w.ownsRow base e size v n xs) (hn : 0 < n) : ∃ g cap, v = .slice (some ⟨g, 0, none⟩) n cap := by
  rcases h.2 with ⟨_, h0⟩ | ⟨g, cap, _, hv, _⟩
  · omega
  · exact ⟨g, cap, hv⟩
end
set_option maxRecDepth 100000 in
set_option maxHeartbeats 1600000 in
theorem lay_any (p B : Nat) (room : Int) (vb vs : Value) (fl : Nat → ByteArray) (m : Nat) (sp : Nat → Spt) (n : Nat) (l : List Ev) (k t : ByteArray) (w : World) (h : PMm w p B room vb vs fl m sp n) (hS : ShL l sp n) (hk : k.size ≤ maxLen) (hB : B ≤ w.heap.size) (hn : n < 2900000000000) :
    Calls Try.prog 53 #[.pointer (some ⟨p, 2, none⟩), .string k, .string t] w fun e w' => e = .returned (.tuple #[]) ∧ ∃ vs' sp' n', PMm w' p B room vb vs' fl m sp' n' ∧ ShL (l ++ [⟨3, 0, k, t⟩]) sp' n' ∧ ChgF (fun q => q = p ∨ vs.ownBlock = some q) w w' ∧ LiesF w vs vs' := by
  obtain ⟨i1, gi, gz0, gz1, gz2⟩ := info_parts Try.infoSpot
  have HF := hid (sfind_any p B room vb vs fl m sp n k w h hS.ord hk)
  have hp := h.lt
  go_enter Try.func53, Try.ntmps53
  go_wp2_with fail
  refine Calls.mono HF.out ?_
  rintro e w1 ⟨⟨f, a, d, rfl, hF⟩, b1⟩
  have hq := eRow_new w1
  have hM1 := h.below b1
  have hBl := b1.alloc b1.size (.cells #[.bool false, .int .i64 0, .int .i64 0] 105)
  have hs1 := b1.size
  have hM5' := hid (fun w5 (o5 : ∀ k, k ≠ w1.heap.size → w5.heap[k]? = (w1.alloc (.cells #[.bool false, .int .i64 0, .int .i64 0] 105)).heap[k]?) => (hM1.alloc (.cells #[.bool false, .int .i64 0, .int .i64 0] 105)).kept (w2 := w5) (fun k hk => by
    have hlt : k < w1.heap.size := by
      rcases hk with rfl | q | q
      · exact hM1.lt
      · exact (hM1.bd.lt k q).2
      · exact (hM1.sh.lt k q).2
    exact o5 k (by omega)))
  unfold endV
  cases f
  · obtain ⟨hno, hd2, hwh⟩ := hF.no rfl
    have HSL := hid (hS.add (t := t) hF 0)
    have HAD := hid (addSp_is sp n a d k t (hwh.elim (fun q => .inr q) (fun q => .inl q.1)))
    have han : a < n + 1 := hwh.elim (fun q => by omega) (fun q => by omega)
    have hdi : (d : Int) < 2 := by omega
    have hai : (a : Int) < (n : Int) + 1 := by omega
    clear hF hno hwh
    go_wp2_with (first
      | (refine wpList_store_rowIs rfl 105 (.tmp 6) (.tmp 9) rfl w1.heap.size rfl 105 3 (eRow false 0 0) (eRow false a d) hq rfl sizeEnd (fun i _ => eRow_one _ _ _ i) ?_
         intro w5 q5 b5 o5 s5
         have c0 : w5.cell? ⟨w1.heap.size, 0, none⟩ = some (.bool false) := World.rowIs.cell q5 (i := 0) (by omega)
         have hM5 := hM5'.out w5 o5
         have S5 := hid (show w5.heap.size = w1.heap.size + 1 from by simpa using s5)
         have hB5 := hid (show B ≤ w5.heap.size from by have := S5.out; omega)
         have e2 := hM5.c2
         clear s5)
      | (at_builtin; refine wpList_append_own_at _ rfl (.tmp 25) (.tmp 29) 55 rfl B 109 i1 (.agg #[.string ⟨#[]⟩, .string ⟨#[]⟩, .int .i64 0, .int .i64 0]) 4 48 Try.underlying55 gi gz0 gz1 gz2 rfl (by decide) _ _ _ rfl (hM5.sh.alloc _) ⟨_, 0, none⟩ 1 1 [.string k, .string t, .int .i64 0, .int .i64 0] rfl rfl (cell4_new _ _ _ _ _ _) (by intro u hu; simp at hu; rcases hu with rfl | rfl | rfl | rfl <;> rfl) (by unfold maxLen; omega) (by omega) (Nat.le_trans hB5.out (by simp)) ?_; intro v' w6 hown' hgrow _ hat; have m6 := hid (hM5.grownS hgrow).1; have k6 := World.rowIs.cell m6.out (i := 2) (by omega); have f6 := World.rowIs.frozen m6.out 2; have R6 := hid (hM5.pushS hgrow hown'); obtain ⟨g4, cap4, rfl⟩ := own_frm5 hown' (by omega)))
    have hrow7 := hid (show (w6.setCell ⟨p, 2, none⟩ (.slice (some ⟨g4, 0, none⟩) (n + 1) cap4)).rowIs w1.heap.size 105 3 (eRow false a d) from by
      refine World.rowIs.of_block q5 ?_
      have h51 := S5.out
      rw [Below.heap_setCell _ _ _ _ (show w1.heap.size ≠ p from by omega), hgrow.block w1.heap.size (by simp; omega) (fun e => ?_), Below.heap_alloc _ _ _ (by omega)]
      have := (hM1.sh.lt _ e.symm).2
      omega)
    have hC7 := hid (show ChgF (fun q => q = p ∨ vs.ownBlock = some q) w (w6.setCell ⟨p, 2, none⟩ (.slice (some ⟨g4, 0, none⟩) (n + 1) cap4)) from
      ((ChgF.ofBelow (hBl.trans (b5.mono hs1))).grown hgrow (fun k hk => .inl (.inr hk))).set _ _ (.inl (.inl rfl)))
    have hL7 := hid (show LiesF w vs (.slice (some ⟨g4, 0, none⟩) (n + 1) cap4) from by
      rcases hat with q | q
      · exact liesF (.inl q)
      · exact liesF (.inr ⟨_, q, by have := S5.out; simp; omega⟩))
    have hBk := hid (show vs.ownBlock = some g4 ∨ w.heap.size ≤ g4 from by
      rcases hat with q | q
      · exact .inl q.symm
      · refine .inr ?_
        have e : g4 = (w5.alloc _).heap.size := Option.some.inj q
        have := S5.out
        rw [e]; simp; omega)
    clear hown' hgrow hat k6 f6 m6
    obtain ⟨w7, hw7⟩ : ∃ w7, w7 = w6.setCell ⟨p, 2, none⟩ (.slice (some ⟨g4, 0, none⟩) (n + 1) cap4) := ⟨_, rfl⟩
    rw [← hw7] at R6 hrow7 hC7 ⊢
    clear hw7
    have c1 : w7.cell? ⟨w1.heap.size, 1, none⟩ = some (.int .i64 (a : Int)) := World.rowIs.cell hrow7.out (i := 1) (by omega)
    have c2 : w7.cell? ⟨w1.heap.size, 2, none⟩ = some (.int .i64 (d : Int)) := World.rowIs.cell hrow7.out (i := 2) (by omega)
    have x2 := R6.out.c2
    obtain ⟨ao, cap, hv, hcell⟩ := R6.out.spots
    obtain ⟨g, hao, g1, g2, g3⟩ := hcell a han
    have hgg : g = g4 := by
      rw [hao] at hv
      injection hv with h1 h2 h3
      injection h1 with h1
      injection h1 with h1
      exact h1.symm
    rw [hgg] at g1 g2 g3
    have q1 : ∃ z, w7.cell? ⟨g4, a * 4 + 2 + d, none⟩ = some z := ⟨_, by rw [Nat.add_assoc]; exact (g3 (2 + d) (by omega)).1⟩
    have f1 : w7.frozen? ⟨g4, a * 4 + 2 + d, none⟩ = false := by rw [Nat.add_assoc]; exact (g3 (2 + d) (by omega)).2
    obtain ⟨z, q1⟩ := q1
    have HR := hid (R6.out.setLink a d n hd2)
    rw [HAD.out] at HR
    clear g3 hcell hv hao
    go_region
    all_goals
      go_wp2
      go_end0
      exact ⟨rfl, _, _, _, HR.out.drew _, HSL.out, (hC7.out.set _ _ (hBk.out.elim (fun q => .inl (.inr q)) .inr)).dr _, hL7.out⟩
  · obtain ⟨ha, hka⟩ := hF.yes rfl
    have HSL := hid (hS.set (t := t) ha hka 0)
    have ha' : (a : Int) < (n : Int) := by omega
    clear hF hka
    go_wp2_with (first
      | (refine wpList_store_rowIs rfl 105 (.tmp 6) (.tmp 9) rfl w1.heap.size rfl 105 3 (eRow false 0 0) (eRow true a d) hq rfl sizeEnd (fun i _ => eRow_one _ _ _ i) ?_
         intro w5 q5 b5 o5 s5
         have c0 : w5.cell? ⟨w1.heap.size, 0, none⟩ = some (.bool true) := World.rowIs.cell q5 (i := 0) (by omega)
         have c1 : w5.cell? ⟨w1.heap.size, 1, none⟩ = some (.int .i64 (a : Int)) := World.rowIs.cell q5 (i := 1) (by omega)
         have hM5 := hM5'.out w5 o5
         have e2 := hM5.c2
         obtain ⟨ao, cap, rfl, hcell⟩ := hM5.spots
         obtain ⟨g, rfl, g1, g2, g3⟩ := hcell a ha
         have q1 : w5.cell? ⟨g, a * 4 + 1, none⟩ = some (.string (sp a).tx) := (g3 1 (by omega)).1
         have f1 := (g3 1 (by omega)).2
         have HR := hid (hM5.setText a t)
         clear g3 hcell hM5))
    go_region
    all_goals
      go_wp2
      refine bodyPost_ret (results_none Try.results53 _ _ _) rfl ?_
      exact ⟨rfl, _, _, _, HR.out.drew _, HSL.out, ((ChgF.ofBelow (hBl.trans (b5.mono hs1))).set _ _ (.inl (.inr rfl))).dr _, liesF (.inl rfl)⟩
end Go.Proofs.Ytnconbpneimjiaa

/-! ###  P13: the walks of Bindings.Bind, Unbind. -/
namespace Go.Proofs.Ytnconbpneimjiaa
open Go.RowKit Go.PlainAid

theorem Try.infoFile : (Try.prog.info? 48).map (fun i => (i.zero, i.size, i.bytes)) = some (some (.agg #[.int .i64 0, .string ⟨#[]⟩, .string ⟨#[]⟩, .int .i64 0]), 4, 48) := by kernel_rfl
/-- A file's value. -/
def flAgg (f : ByteArray) : Value := fileV (num f 3 2 : Int) (pAns f).2.1 (pAns f).2.2.1 (wSum (f.extract 0 (pE f)) : Nat)
section
variable {w w2 : World} {p B : Nat} {room : Int} {vb vs : Value} {fl : Nat → ByteArray} {m : Nat} {sp : Nat → Spt} {n : Nat}
theorem flVs_set (fl : Nat → ByteArray) (m k : Nat) (f : ByteArray) : ((((cells4 (flVs fl) m).set (k * 4 + 0) (flV f 0)).set (k * 4 + 1) (flV f 1)).set (k * 4 + 2) (flV f 2)).set (k * 4 + 3) (flV f 3) = cells4 (flVs (setFl fl k f)) m := by
  rw [cells4_set (flVs fl) (fun a b => if a = k ∧ b = 0 then flV f 0 else flVs fl a b) m k 0 _ (by omega) (fun a b _ _ => rfl)]
  rw [cells4_set _ (fun a b => if a = k ∧ b = 1 then flV f 1 else if a = k ∧ b = 0 then flV f 0 else flVs fl a b) m k 1 _ (by omega) (fun a b _ _ => rfl)]
  rw [cells4_set _ (fun a b => if a = k ∧ b = 2 then flV f 2 else if a = k ∧ b = 1 then flV f 1 else if a = k ∧ b = 0 then flV f 0 else flVs fl a b) m k 2 _ (by omega) (fun a b _ _ => rfl)]
  refine cells4_set _ _ m k 3 _ (by omega) (fun a b _ hb => ?_)
  unfold flVs setFl
  by_cases h : a = k
  · have h4 : b = 0 ∨ b = 1 ∨ b = 2 ∨ b = 3 := by omega
    rcases h4 with rfl | rfl | rfl | rfl <;> simp [h]
  · simp [h]
theorem PMm.setFile {g cap : Nat} (h : PMm w p B room (.slice (some ⟨g, 0, none⟩) m cap) vs fl m sp n) (k : Nat) (f : ByteArray) : PMm ((((w.setCell ⟨g, k * 4, none⟩ (flV f 0)).setCell ⟨g, k * 4 + 1, none⟩ (flV f 1)).setCell ⟨g, k * 4 + 2, none⟩ (flV f 2)).setCell ⟨g, k * 4 + 3, none⟩ (flV f 3)) p B room (.slice (some ⟨g, 0, none⟩) m cap) vs (setFl fl k f) m sp n := by
  have hgp : g ≠ p := fun e => h.nb (by rw [e]; rfl)
  have hs := (World.ownsRow.stored (World.ownsRow.stored (World.ownsRow.stored (World.ownsRow.stored h.bd (k * 4 + 0) (flV f 0)).1 (k * 4 + 1) (flV f 1)).1 (k * 4 + 2) (flV f 2)).1 (k * 4 + 3) (flV f 3)).1
  rw [flVs_set] at hs
  have ha : ∀ q, vs.ownBlock ≠ some (⟨g, q, none⟩ : Addr).block := by
    intro q
    rcases h.apart' with e | e
    · rw [e]; simp
    · exact e
  refine ⟨World.rowIs.setOther (World.rowIs.setOther (World.rowIs.setOther (World.rowIs.setOther h.row (a := ⟨g, k * 4, none⟩) (by show p ≠ g; omega) _) (a := ⟨g, k * 4 + 1, none⟩) (by show p ≠ g; omega) _) (a := ⟨g, k * 4 + 2, none⟩) (by show p ≠ g; omega) _) (a := ⟨g, k * 4 + 3, none⟩) (by show p ≠ g; omega) _, h.lo, hs, ?_⟩
  exact ownsRow_setCell_other (ownsRow_setCell_other (ownsRow_setCell_other (ownsRow_setCell_other h.sh (ha _) _) (ha _) _) (ha _) _) (ha _) _
theorem PMm.pushB {o : Obj} {vb' : Value} {f : ByteArray} (h : PMm w p B room vb vs fl m sp n) (hg : (w.alloc o).grownBy w2 vb.ownBlock) (ho : w2.ownsRow B 48 4 vb' (m + 1) (cells4 (flVs fl) m ++ [flV f 0, flV f 1, flV f 2, flV f 3])) : PMm (w2.setCell ⟨p, 1, none⟩ vb') p B room vb' vs (setFl fl m f) (m + 1) sp n := by
  obtain ⟨h1, h2⟩ := h.grownB hg
  have e : cells4 (flVs fl) m ++ [flV f 0, flV f 1, flV f 2, flV f 3] = cells4 (flVs (setFl fl m f)) (m + 1) := by
    have := cells4_snoc (flVs fl) (flVs (setFl fl m f)) m (fun a b ha _ => by unfold flVs; rw [setFl_ne _ _ _ _ (by omega)])
    rw [← this]
    unfold flVs
    rw [setFl_at]
  rw [e] at ho
  exact ⟨World.rowIs.congr (World.rowIs.set h1 1 vb') (fun i hi => by match i, hi with | 0, _ => rfl | 1, _ => rfl | 2, _ => rfl), h.lo, ownsRow_setCell_below ho (a := ⟨p, 1, none⟩) h.lo vb', ownsRow_setCell_below h2 (a := ⟨p, 1, none⟩) h.lo vb'⟩
end
/-- Is there no room for a file? -/
def FullB (l : List Ev) (room : Int) (f : ByteArray) : Prop := fileOf l (num f 3 2 : Int) = ⟨#[]⟩ ∧ room ≤ (idsOf l : Int)
/-- What Bind does. -/
def BindPost (w : World) (p B : Nat) (room : Int) (vb vs : Value) (sp : Nat → Spt) (n : Nat) (l : List Ev) (f : ByteArray) (e : Ending) (w' : World) : Prop :=
  ∃ vb' fl' m', PMm w' p B room vb' vs fl' m' sp n ∧ ChgF (fun q => q = p ∨ vb.ownBlock = some q) w w' ∧ LiesF w vb vb' ∧ ((FullB l room f ∧ e = .returned (.bool false) ∧ BdL l room fl' m') ∨ (¬ FullB l room f ∧ e = .returned (.bool true) ∧ BdL (l ++ [⟨1, (num f 3 2 : Int), ⟨#[]⟩, f⟩]) room fl' m'))
set_option maxRecDepth 100000 in
set_option maxHeartbeats 1600000 in
theorem bind_any (p B : Nat) (room : Int) (vb vs : Value) (fl : Nat → ByteArray) (m : Nat) (sp : Nat → Spt) (n : Nat) (l : List Ev) (f : ByteArray) (w : World) (h : PMm w p B room vb vs fl m sp n) (hm : m ≤ 8) (hL : BdL l room fl m) (hO : LogOk l) (hf : pOk f) (hB : B ≤ w.heap.size) :
    Calls Try.prog 19 #[.pointer (some ⟨p, 0, none⟩), flAgg f] w fun e w' => BindPost w p B room vb vs sp n l f e w' := by
  obtain ⟨i1, gi, gz0, gz1, gz2⟩ := info_parts Try.infoFile
  have hp := h.lt
  have HO := hid (show (#[flV f 0, flV f 1, flV f 2, flV f 3] : Array Value) = #[flV f 0, flV f 1, flV f 2, flV f 3] from rfl)
  have hM := h.alloc (.cells #[flV f 0, flV f 1, flV f 2, flV f 3] 48)
  have HF := hid (bfind_any p B room vb vs fl m sp n (num f 3 2 : Int) _ hM hm)
  have e0 : flV f 0 = .int .i64 (num f 3 2 : Int) := rfl
  have E1 := hid (show ∃ T, flV f 1 = .string T from ⟨_, rfl⟩)
  have E2 := hid (show ∃ C, flV f 2 = .string C from ⟨_, rfl⟩)
  have E3 := hid (show ∃ S : Int, flV f 3 = .int .i64 S from ⟨_, rfl⟩)
  have hA : flAgg f = .agg #[flV f 0, flV f 1, flV f 2, flV f 3] := rfl
  obtain ⟨T, e1⟩ := E1.out
  obtain ⟨C, e2⟩ := E2.out
  obtain ⟨S, e3⟩ := E3.out
  have hSF := hid (fun g cap (w : World) (h : PMm w p B room (.slice (some ⟨g, 0, none⟩) m cap) vs fl m sp n) k => h.setFile k f)
  have hPB := hid (fun (w w2 : World) (o : Obj) (vb' : Value) (h : PMm w p B room vb vs fl m sp n) hg ho => h.pushB (w2 := w2) (o := o) (vb' := vb') (f := f) hg ho)
  rw [hA]
  rw [e0, e1, e2, e3] at hM HF hSF hPB ⊢
  clear e0 e1 e2 e3 E1 E2 E3 HO hA
  have HMW := hid hM
  have hnl := num_lt f 3 2
  have HL := hid hL
  have HB0 := hid (show Below w.heap.size w (w.alloc (.cells #[.int .i64 (num f 3 2 : Int), .string T, .string C, .int .i64 S] 48)) from (Below.refl _ _).alloc (Nat.le_refl _) _)
  have hs0 : (w.alloc (.cells #[.int .i64 (num f 3 2 : Int), .string T, .string C, .int .i64 S] 48)).heap.size = w.heap.size + 1 := by simp
  have HS0 := hid hs0
  have q0 : (w.alloc (.cells #[.int .i64 (num f 3 2 : Int), .string T, .string C, .int .i64 S] 48)).cell? ⟨w.heap.size, 0, none⟩ = some (.int .i64 (num f 3 2 : Int)) := by simp
  have q1 : (w.alloc (.cells #[.int .i64 (num f 3 2 : Int), .string T, .string C, .int .i64 S] 48)).cell? ⟨w.heap.size, 1, none⟩ = some (.string T) := by simp
  have q2 : (w.alloc (.cells #[.int .i64 (num f 3 2 : Int), .string T, .string C, .int .i64 S] 48)).cell? ⟨w.heap.size, 2, none⟩ = some (.string C) := by simp
  have q3 : (w.alloc (.cells #[.int .i64 (num f 3 2 : Int), .string T, .string C, .int .i64 S] 48)).cell? ⟨w.heap.size, 3, none⟩ = some (.int .i64 S) := by simp
  clear hM hL hs0
  have HP := hid (show ∀ e w', BindPost w p B room vb vs sp n l f e w' = BindPost w p B room vb vs sp n l f e w' from fun _ _ => rfl)
  go_enter Try.func19, Try.ntmps19
  go_wp2_with fail
  generalize hW : w.alloc (.cells #[.int .i64 (num f 3 2 : Int), .string T, .string C, .int .i64 S] 48) = W at *
  clear hW HP
  refine Calls.mono HF.out ?_
  rintro e w1 ⟨⟨x, rfl, hx⟩, k1⟩
  rw [k1]
  clear k1 w1
  have c1 := HMW.out.c1
  have c0 := HMW.out.c0
  rcases hx with ⟨rfl, hno⟩ | ⟨k, hk, rfl, hid'⟩
  · have HFO := hid (HL.out.no _ hno)
    have HC := hid HL.out.cnt
    obtain ⟨ao, cap, hvb, _⟩ := HMW.out.files
    by_cases hr : room ≤ (m : Int)
    · have HR := hid (show FullB l room f from ⟨HFO.out, by rw [HC.out]; exact hr⟩)
      subst hvb
      go_wp2_with fail
      go_quiet (fail)
      go_wp2
      go_ret
      exact ⟨_, fl, m, HMW.out.drew _, (ChgF.ofBelow HB0.out).dr _, liesF (.inl rfl), .inl ⟨HR.out, rfl, HL.out⟩⟩
    · have HNF := hid (show ¬ FullB l room f from fun q => hr (by have := q.2; rw [HC.out] at this; exact this))
      have HBL := hid (HL.out.add hO hf (fun i hi q => hno i hi (by omega)) (by omega) ⟨#[]⟩)
      subst hvb
      go_wp2_with fail
      go_quiet (fail)
      go_wp2_with fail
      obtain ⟨W2, hW2⟩ : ∃ W2, W2 = W.drewN nq := ⟨_, rfl⟩
      rw [← hW2]
      have HM2 := hid (show PMm W2 p B room (.slice ao m cap) vs fl m sp n from by rw [hW2]; exact HMW.out.drew nq)
      have HB2 := hid (show Below w.heap.size w W2 from by rw [hW2]; exact Below.drewN HB0.out nq)
      have HS2 := hid (show W2.heap.size = w.heap.size + 1 from by rw [hW2]; exact HS0.out)
      have x1 : W2.cell? ⟨p, 1, none⟩ = some (.slice ao m cap) := HM2.out.c1
      have y0 : W2.cell? ⟨w.heap.size, 0, none⟩ = some (.int .i64 (num f 3 2 : Int)) := by rw [hW2]; exact q0
      have y1 : W2.cell? ⟨w.heap.size, 1, none⟩ = some (.string T) := by rw [hW2]; exact q1
      have y2 : W2.cell? ⟨w.heap.size, 2, none⟩ = some (.string C) := by rw [hW2]; exact q2
      have y3 : W2.cell? ⟨w.heap.size, 3, none⟩ = some (.int .i64 S) := by rw [hW2]; exact q3
      have np := HM2.out.nb
      have nw : (Value.slice ao m cap).ownBlock ≠ some w.heap.size := fun q => by have := (h.bd.lt _ q).2; omega
      have hpl : p < W2.heap.size := by have := HS2.out; omega
      have hwl : w.heap.size < W2.heap.size := by have := HS2.out; omega
      have HBB := hid (show B ≤ W2.heap.size from by have := HS2.out; omega)
      have jj := hid (fun w6 (hg : (W2.alloc (.cells #[.int .i64 (num f 3 2 : Int), .string T, .string C, .int .i64 S] 48)).grownBy w6 (Value.slice ao m cap).ownBlock) i => (hg.cell_far ⟨w.heap.size, i, none⟩ (by simp; omega) (Ne.symm nw)).trans (World.cell?_of_block (Below.heap_alloc _ _ _ hwl)))
      clear c1 c0 q0 q1 q2 q3 hW2
      go_region_law ((refine step_append_lies _ (by rfl) _ _ _ (by rfl) B 48 i1 _ 4 48 Try.underlying51 gi gz0 gz1 gz2 rfl (by omega) (.slice ao m cap) m (cells4 (flVs fl) m) (by rfl) ((HM2.out.bd.alloc _).drew) ⟨W2.heap.size, 0, none⟩ 1 1 [.int .i64 (num f 3 2 : Int), .string T, .string C, .int .i64 S] (by rfl) (by rfl) (World.news_of_block (cs := #[.int .i64 (num f 3 2 : Int), .string T, .string C, .int .i64 S]) (t := 48) (fr := (0, 0)) (heap_alloc_new W2 _)) (by simp [Value.oneCell']) (by omega) (by unfold maxLen; omega) (by omega) (Nat.le_trans HBB.out (by simp)) (W2.heap.size + 1) (by simp) ?_; intro g4 cap4 w6 hown6 hgrow hat hlt; have hg6 : (W2.alloc (.cells #[.int .i64 (num f 3 2 : Int), .string T, .string C, .int .i64 S] 48)).grownBy w6 (Value.slice ao m cap).ownBlock := ⟨hgrow.os, hgrow.tape, hgrow.output, hgrow.size, hgrow.block⟩; have m6 := hid (HM2.out.grownB hg6).1; have f6 := World.rowIs.frozen m6.out 1; have k6 : w6.cell? ⟨p, 1, none⟩ = some (.slice ao m cap) := World.rowIs.cell m6.out (i := 1) (by omega); have j0 := (jj.out w6 hg6 0).trans y0; have j1 := (jj.out w6 hg6 1).trans y1; have j2 := (jj.out w6 hg6 2).trans y2; have j3 := (jj.out w6 hg6 3).trans y3))
      all_goals
        have HPM := hid (hPB.out W2 w6 _ _ HM2.out hg6 hown6)
        have HCh := hid (((ChgF.ofBelow (F := fun q => q = p ∨ (Value.slice ao m cap).ownBlock = some q) HB2.out).grown hg6 (fun k hk => .inl (.inr hk))).set ⟨p, 1, none⟩ (.slice (some ⟨g4, 0, none⟩) (m + 1) cap4) (.inl (.inl rfl)))
        have HLi := hid (show LiesF w (.slice ao m cap) (.slice (some ⟨g4, 0, none⟩) (m + 1) cap4) from by
          rcases hat with q | q
          · exact liesF (.inl q.symm)
          · exact liesF (.inr ⟨g4, rfl, by have := HS2.out; omega⟩))
        clear hgrow hg6 hown6 hat m6 k6 j0 j1 j2 j3
        go_wp2
        go_ret
        exact ⟨_, _, _, HPM.out, HCh.out, HLi.out, .inr ⟨HNF.out, rfl, HBL.out⟩⟩
  · have HR := hid (show ¬ FullB l room f from fun q => by
      have := q.1
      rw [← hid', HL.out.has k hk] at this
      exact pOk_nemp (HL.out.ok k hk) this)
    have HBL := hid (HL.out.set hO hk hf (by omega) ⟨#[]⟩)
    have hk' : (k : Int) < (m : Int) := by omega
    have hk0 : decide (0 ≤ (k : Int)) = true := by simp
    obtain ⟨ao, cap, hvb, hcell⟩ := HMW.out.files
    subst hvb
    obtain ⟨g, rfl, g1, g2, g3⟩ := hcell k hk
    have z0 : ∃ z, W.cell? ⟨g, k * 4, none⟩ = some z := ⟨_, (g3 0 (by omega)).1⟩
    have z1 : ∃ z, W.cell? ⟨g, k * 4 + 1, none⟩ = some z := ⟨_, (g3 1 (by omega)).1⟩
    have z2 : ∃ z, W.cell? ⟨g, k * 4 + 2, none⟩ = some z := ⟨_, (g3 2 (by omega)).1⟩
    have z3 : ∃ z, W.cell? ⟨g, k * 4 + 3, none⟩ = some z := ⟨_, (g3 3 (by omega)).1⟩
    have f0 : W.frozen? ⟨g, k * 4, none⟩ = false := (g3 0 (by omega)).2
    have f1 := (g3 1 (by omega)).2
    have f2 := (g3 2 (by omega)).2
    have f3 := (g3 3 (by omega)).2
    obtain ⟨z0, z0'⟩ := z0
    obtain ⟨z1, z1'⟩ := z1
    obtain ⟨z2, z2'⟩ := z2
    obtain ⟨z3, z3'⟩ := z3
    have HPM := hid (hSF.out g cap W HMW.out k)
    have hCh := hid (show ∀ u0 u1 u2 u3, ChgF (fun q => q = p ∨ (Value.slice (some ⟨g, 0, none⟩) m cap).ownBlock = some q) w ((((W.setCell ⟨g, k * 4, none⟩ u0).setCell ⟨g, k * 4 + 1, none⟩ u1).setCell ⟨g, k * 4 + 2, none⟩ u2).setCell ⟨g, k * 4 + 3, none⟩ u3) from fun u0 u1 u2 u3 => ((((ChgF.ofBelow HB0.out).set _ _ (.inl (.inr rfl))).set _ _ (.inl (.inr rfl))).set _ _ (.inl (.inr rfl))).set _ _ (.inl (.inr rfl)))
    clear g3 hcell hid'
    go_wp2_with fail
    go_region
    all_goals
      go_wp2
      go_ret
      exact ⟨_, _, _, HPM.out.drew _, (hCh.out _ _ _ _).dr _, liesF (.inl rfl), .inr ⟨HR.out, rfl, HBL.out⟩⟩

/-- What Unbind does. -/
def UnbindPost (w : World) (p B : Nat) (room : Int) (vb vs : Value) (sp : Nat → Spt) (n : Nat) (l : List Ev) (id : Int) (e : Ending) (w' : World) : Prop :=
  ∃ vb' fl' m', PMm w' p B room vb' vs fl' m' sp n ∧ ChgF (fun q => q = p ∨ vb.ownBlock = some q) w w' ∧ LiesF w vb vb' ∧ ((fileOf l id = ⟨#[]⟩ ∧ e = .returned (.bool false) ∧ BdL l room fl' m') ∨ (fileOf l id ≠ ⟨#[]⟩ ∧ e = .returned (.bool true) ∧ BdL (l ++ [⟨2, id, ⟨#[]⟩, ⟨#[]⟩⟩]) room fl' m'))
theorem own_sl4 {w : World} {base size n e : Nat} {v : Value} {xs : List Value} (h : w.ownsRow base e size v n xs) : ∃ ao cap, v = .slice ao n cap := by
  rcases h.2 with ⟨rfl, h0⟩ | ⟨g, cap, _, hv, _⟩
  · exact ⟨none, 0, by rw [h0]⟩
  · exact ⟨_, cap, hv⟩
/-- The row without one, so far. -/
theorem cutFl_step (fl : Nat → ByteArray) (a k : Nat) : (k < a → cutFl fl a k = fl k) ∧ (a < k → cutFl fl a (k - 1) = fl k) := by
  refine ⟨fun h => if_pos h, fun h => ?_⟩
  unfold cutFl
  rw [if_neg (by omega), show k - 1 + 1 = k from by omega]
set_option maxRecDepth 100000 in
set_option maxHeartbeats 1600000 in
theorem unbind_any (p B : Nat) (room : Int) (vb vs : Value) (fl : Nat → ByteArray) (m : Nat) (sp : Nat → Spt) (n : Nat) (l : List Ev) (id : Int) (w : World) (h : PMm w p B room vb vs fl m sp n) (hm : m ≤ 8) (hL : BdL l room fl m) (hO : LogOk l) (hB : B ≤ w.heap.size) :
    Calls Try.prog 36 #[.pointer (some ⟨p, 0, none⟩), .int .i64 id] w fun e w' => UnbindPost w p B room vb vs sp n l id e w' := by
  obtain ⟨i1, gi, gz0, gz1, gz2⟩ := info_parts Try.infoFile
  have HF := hid (bfind_any p B room vb vs fl m sp n id w h hm)
  have hp := h.lt
  have c1 := h.c1
  go_enter Try.func36, Try.ntmps36
  go_wp2_with fail
  refine Calls.mono HF.out ?_
  rintro e w1 ⟨⟨x, rfl, hx⟩, k1⟩
  rw [k1]
  clear k1 w1
  rcases hx with ⟨rfl, hno⟩ | ⟨a, ha, rfl, hid'⟩
  · have HR := hid (hL.no id hno)
    clear hno
    go_wp2
    go_ret
    exact ⟨vb, fl, m, h, ChgF.refl _ _, liesF (.inl rfl), .inl ⟨HR.out, rfl, hL⟩⟩
  · have HN := hid (show fileOf l id ≠ ⟨#[]⟩ from by rw [← hid', hL.has a ha]; exact pOk_nemp (hL.ok a ha))
    have HBL := hid (show BdL (l ++ [⟨2, id, ⟨#[]⟩, ⟨#[]⟩⟩]) room (cutFl fl a) (m - 1) from by rw [← hid']; exact hL.cut hO ha ⟨#[]⟩)
    have ha0 : ¬ (a : Int) < 0 := by omega
    obtain ⟨ao, cap, hvb, hcell⟩ := h.files
    obtain ⟨g, hao, g1, g2, _⟩ := hcell a ha
    subst hao
    have HH := hid h
    subst hvb
    clear hid' hcell
    go_wp2
    go_loopw [6, 7] (fun v i wr => ∃ k : Nat, k ≤ m ∧ i = .int .i64 k ∧ wr.ownsRow w.heap.size 48 4 v (if a < k then k - 1 else k) (cells4 (flVs (cutFl fl a)) (if a < k then k - 1 else k)) ∧ Below w.heap.size w wr) (fun _ i _ => m - (intOf i).toNat)
    case atStart => exact ⟨0, Nat.zero_le _, rfl, World.ownsRow_nil _ _ _ _, Below.refl _ _⟩
    case round =>
      obtain ⟨k, hk, rfl, ho, hbel⟩ := hrel
      have hM := HH.out.below hbel
      have e1 := hM.c1
      have hsz := hbel.size
      by_cases hlt : k < m
      · have hlt' : (k : Int) < (m : Int) := by omega
        obtain ⟨ao', cap', hv', hcell⟩ := hM.files
        injection hv' with hv1 hv2 hv3
        obtain ⟨g', hao', g1', g2', g3⟩ := hcell k hlt
        rw [← hv1] at hao'
        injection hao' with hao'
        injection hao' with hgg
        rw [← hgg] at g2' g3
        have hrg := file_range (fun j hj => (g3 j hj).1)
        clear hcell hv1 hv2 hv3 g3 hgg
        by_cases hka : k = a
        · have hne : ((k : Int) != (a : Int)) = false := by simp [hka]
          have HO4 := hid (show wr.ownsRow w.heap.size 48 4 _ (if a < k + 1 then k + 1 - 1 else k + 1) (cells4 (flVs (cutFl fl a)) (if a < k + 1 then k + 1 - 1 else k + 1)) from by
            rw [if_neg (show ¬ a < k from by omega)] at ho
            rw [if_pos (show a < k + 1 from by omega), Nat.add_sub_cancel]; exact ho)
          clear hka
          go_wp2
          go_roundw
          case rel => exact ⟨k + 1, by omega, by go_num, HO4.out, hbel⟩
          case measure => first | (simp [intOf]; done) | (simp [intOf]; omega)
        · have hne : ((k : Int) != (a : Int)) = true := by simp; omega
          obtain ⟨c, hc⟩ : ∃ c, c = if a < k then k - 1 else k := ⟨_, rfl⟩
          have hc1 : (if a < k + 1 then k + 1 - 1 else k + 1) = c + 1 := by
            rw [hc]
            by_cases q : a < k
            · rw [if_pos q, if_pos (by omega)]; omega
            · rw [if_neg q, if_neg (by omega)]
          have hcf : cutFl fl a c = fl k := by
            rw [hc]
            by_cases q : a < k
            · rw [if_pos q]; exact (cutFl_step fl a k).2 q
            · rw [if_neg q]; exact (cutFl_step fl a k).1 (by omega)
          have hcm : c < 9 := by rw [hc]; split <;> omega
          rw [← hc] at ho
          have HSN := hid (show cells4 (flVs (cutFl fl a)) c ++ [flV (fl k) 0, flV (fl k) 1, flV (fl k) 2, flV (fl k) 3] = cells4 (flVs (cutFl fl a)) (c + 1) from by
            rw [← cells4_snoc (flVs (cutFl fl a)) (flVs (cutFl fl a)) c (fun _ _ _ _ => rfl)]
            unfold flVs
            rw [hcf])
          have HC1 := hid hc1
          have HHO := hid ho
          have h1c : ∀ j, (flV (fl k) j).oneCell' = true := fun j => fRow_one _ _ _ _ j
          clear hc hcf hc1
          generalize flV (fl k) = V at *
          go_wp2_with (first
            | (refine wpList_load_mid rfl 48 (.tmp 31) rfl g (k * 4) rfl _ _ hrg Try.underlying48 rfl sizeFile ?_)
            | (at_builtin; refine wpList_append_own_at _ rfl (.tmp 25) (.tmp 33) 51 rfl w.heap.size 48 i1 (.agg #[.int .i64 0, .string ⟨#[]⟩, .string ⟨#[]⟩, .int .i64 0]) 4 48 Try.underlying51 gi gz0 gz1 gz2 rfl (by decide) _ _ _ rfl (HHO.out.alloc _) ⟨_, 0, none⟩ 1 1 [V 0, V 1, V 2, V 3] rfl rfl (cell4_new _ _ _ _ _ _) (by intro u hu; simp at hu; rcases hu with rfl | rfl | rfl | rfl <;> exact h1c _) (by unfold maxLen; omega) (by omega) (by simp; omega) ?_; intro v' w4 hown' hgrow _ _))
          go_roundw
          case rel =>
            have bel4 := (hbel.alloc (by omega) _).grown hgrow (by simp; omega) (own_base HHO.out)
            rw [HSN.out] at hown'
            refine ⟨k + 1, by omega, by go_num, ?_, bel4⟩
            rw [HC1.out]
            exact hown'
          case measure => first | (simp [intOf]; done) | (simp [intOf]; omega)
      · have hlt' : ¬ (k : Int) < (m : Int) := by omega
        have hkm : k = m := by omega
        rw [hkm, if_pos ha] at ho
        have fz := World.rowIs.frozen hM.row 1
        have HM2 := hid (hM.setB (own_mono ho hB))
        have HLi := hid (show LiesF w (.slice (some ⟨g, 0, none⟩) m cap) _ from fun q hq => .inr (ho.lt q hq).1)
        have HCh := hid (fun u => (ChgF.ofBelow (F := fun q => q = p ∨ (Value.slice (some ⟨g, 0, none⟩) m cap).ownBlock = some q) hbel).set ⟨p, 1, none⟩ u (.inl (.inl rfl)))
        obtain ⟨ao4, cap4, rfl⟩ := own_sl4 ho
        clear hkm ho
        go_wp2
        go_ret
        exact ⟨_, _, _, HM2.out, HCh.out _, HLi.out, .inr ⟨HN.out, rfl, HBL.out⟩⟩
end Go.Proofs.Ytnconbpneimjiaa

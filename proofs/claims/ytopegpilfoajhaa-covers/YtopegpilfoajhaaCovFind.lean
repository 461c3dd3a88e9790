/-
  P7: the walk of find.
-/
import Derived.Test.YtopegpilfoajhaaCovWalk
import Derived.Test.YtopegpilfoajhaaTabRefTable
import Derived.Maps.AppendAt
namespace Go.Proofs.Ytopegpilfoajhaa
open Go.RowKit Go.PlainAid

/-! ### Several slices of the call's own -/
theorem own_frm {w : World} {base size n e : Nat} {v : Value} {xs : List Value} (h : w.ownsRow base e size v n xs) (hn : 0 < n) : ∃ g cap, v = .slice (some ⟨g, 0, none⟩) n cap := by
  rcases h.2 with ⟨_, h0⟩ | ⟨g, cap, _, hv, _⟩
  · omega
  · exact ⟨g, cap, hv⟩
section
variable {w : World} {b t : Nat} {x0 x1 x2 x3 : Value}
theorem pRow_c0 (h : w.rowIs b t 4 (pRow x0 x1 x2 x3)) : w.cell? ⟨b, 0, none⟩ = some x0 := World.rowIs.cell h (i := 0) (by omega)
theorem pRow_c1 (h : w.rowIs b t 4 (pRow x0 x1 x2 x3)) : w.cell? ⟨b, 1, none⟩ = some x1 := World.rowIs.cell h (i := 1) (by omega)
theorem pRow_c2 (h : w.rowIs b t 4 (pRow x0 x1 x2 x3)) : w.cell? ⟨b, 2, none⟩ = some x2 := World.rowIs.cell h (i := 2) (by omega)
theorem pRow_c3 (h : w.rowIs b t 4 (pRow x0 x1 x2 x3)) : w.cell? ⟨b, 3, none⟩ = some x3 := World.rowIs.cell h (i := 3) (by omega)
end
theorem cell_one_at {w : World} {x : Value} {e B : Nat} (h : B = w.heap.size) : ∀ j u, [x][j]? = some u → (w.alloc (.cells #[x] e)).cell? ((⟨B, 0, none⟩ : Addr).add j) = some u := by
  subst h
  exact cell_one_new _ _ _
def apart (u v : Value) : Prop := u.ownBlock = none ∨ u.ownBlock ≠ v.ownBlock
theorem apart.symm {u v : Value} (h : apart u v) : apart v u := by
  rcases h with h | h
  · unfold apart
    rw [h]
    cases hv : v.ownBlock
    · exact .inl rfl
    · exact .inr (by simp)
  · exact .inr (fun e => h e.symm)
theorem apart_new {w1 : World} {o : Obj} {B e : Nat} {u v v' : Value} {m : Nat} {ys : List Value} (hu : w1.ownsRow B e 1 u m ys) (ha : apart u v) (hat : v'.ownBlock = v.ownBlock ∨ v'.ownBlock = some (w1.alloc o).heap.size) : apart u v' := by
  rcases hat with h | h
  · unfold apart; rw [h]; exact ha
  · cases hq : u.ownBlock with
    | none => exact .inl hq
    | some g =>
      refine .inr ?_
      rw [h, hq]
      have := (hu.lt g hq).2
      simp
      omega
theorem own_step {w1 w2 : World} {o : Obj} {B b i e : Nat} {u v v' : Value} {m : Nat} {ys : List Value} (hu : w1.ownsRow B e 1 u m ys) (ha : apart u v) (hg : (w1.alloc o).grownBy w2 v.ownBlock) (hb : b < B) : (w2.setCell ⟨b, i, none⟩ v').ownsRow B e 1 u m ys :=
  ownsRow_setCell_below ((hu.alloc o).kept hg ha) (by exact hb) v'

structure Fnd (w : World) (b B : Nat) (vp vf vt vk : Value) (np nf nt nk : Nat) (xp xf xt xk : List Value) : Prop where
  lt : b < B
  row : w.rowIs b 99 4 (pRow vp vf vt vk)
  p : w.ownsRow B 3 1 vp np xp
  f : w.ownsRow B 3 1 vf nf xf
  t : w.ownsRow B 3 1 vt nt xt
  k : w.ownsRow B 4 1 vk nk xk
  pf : apart vp vf
  pt : apart vp vt
  pk : apart vp vk
  ft : apart vf vt
  fk : apart vf vk
  tk : apart vt vk
section
variable {w w2 : World} {o : Obj} {b B : Nat} {vp vf vt vk v' : Value} {np nf nt nk : Nat} {xp xf xt xk : List Value} {x : Value}
theorem Fnd.mid (h : Fnd w b B vp vf vt vk np nf nt nk xp xf xt xk) {v : Value} (hv : ∀ k, v.ownBlock = some k → B ≤ k) (hg : (w.alloc o).grownBy w2 v.ownBlock) : w2.rowIs b 99 4 (pRow vp vf vt vk) := by
  have hl := World.rowIs.lt h.row
  have h0 := h.lt
  refine World.rowIs.of_block (World.rowIs.alloc h.row o) (hg.block b (by simp; omega) (fun e => ?_))
  have := hv b e.symm
  omega
theorem Fnd.appP (h : Fnd w b B vp vf vt vk np nf nt nk xp xf xt xk) (hg : (w.alloc o).grownBy w2 vp.ownBlock) (ho : w2.ownsRow B 3 1 v' (np + 1) (xp ++ [x])) (hat : v'.ownBlock = vp.ownBlock ∨ v'.ownBlock = some (w.alloc o).heap.size) :
    Fnd (w2.setCell ⟨b, 0, none⟩ v') b B v' vf vt vk (np + 1) nf nt nk (xp ++ [x]) xf xt xk :=
  ⟨h.lt, World.rowIs.congr (World.rowIs.set (h.mid (own_base h.p) hg) 0 v') (fun i hi => by match i, hi with | 0, _ => rfl | 1, _ => rfl | 2, _ => rfl | 3, _ => rfl), ownsRow_setCell_below ho h.lt v', own_step h.f h.pf.symm hg h.lt, own_step h.t h.pt.symm hg h.lt, own_step h.k h.pk.symm hg h.lt,
    (apart_new h.f h.pf.symm hat).symm, (apart_new h.t h.pt.symm hat).symm, (apart_new h.k h.pk.symm hat).symm, h.ft, h.fk, h.tk⟩
theorem Fnd.appF (h : Fnd w b B vp vf vt vk np nf nt nk xp xf xt xk) (hg : (w.alloc o).grownBy w2 vf.ownBlock) (ho : w2.ownsRow B 3 1 v' (nf + 1) (xf ++ [x])) (hat : v'.ownBlock = vf.ownBlock ∨ v'.ownBlock = some (w.alloc o).heap.size) :
    Fnd (w2.setCell ⟨b, 1, none⟩ v') b B vp v' vt vk np (nf + 1) nt nk xp (xf ++ [x]) xt xk :=
  ⟨h.lt, World.rowIs.congr (World.rowIs.set (h.mid (own_base h.f) hg) 1 v') (fun i hi => by match i, hi with | 0, _ => rfl | 1, _ => rfl | 2, _ => rfl | 3, _ => rfl), own_step h.p h.pf hg h.lt, ownsRow_setCell_below ho h.lt v', own_step h.t h.ft.symm hg h.lt, own_step h.k h.fk.symm hg h.lt,
    apart_new h.p h.pf hat, h.pt, h.pk, (apart_new h.t h.ft.symm hat).symm, (apart_new h.k h.fk.symm hat).symm, h.tk⟩
theorem Fnd.appT (h : Fnd w b B vp vf vt vk np nf nt nk xp xf xt xk) (hg : (w.alloc o).grownBy w2 vt.ownBlock) (ho : w2.ownsRow B 3 1 v' (nt + 1) (xt ++ [x])) (hat : v'.ownBlock = vt.ownBlock ∨ v'.ownBlock = some (w.alloc o).heap.size) :
    Fnd (w2.setCell ⟨b, 2, none⟩ v') b B vp vf v' vk np nf (nt + 1) nk xp xf (xt ++ [x]) xk :=
  ⟨h.lt, World.rowIs.congr (World.rowIs.set (h.mid (own_base h.t) hg) 2 v') (fun i hi => by match i, hi with | 0, _ => rfl | 1, _ => rfl | 2, _ => rfl | 3, _ => rfl), own_step h.p h.pt hg h.lt, own_step h.f h.ft hg h.lt, ownsRow_setCell_below ho h.lt v', own_step h.k h.tk.symm hg h.lt,
    h.pf, apart_new h.p h.pt hat, h.pk, apart_new h.f h.ft hat, h.fk, (apart_new h.k h.tk.symm hat).symm⟩
theorem Fnd.appK (h : Fnd w b B vp vf vt vk np nf nt nk xp xf xt xk) (hg : (w.alloc o).grownBy w2 vk.ownBlock) (ho : w2.ownsRow B 4 1 v' (nk + 1) (xk ++ [x])) (hat : v'.ownBlock = vk.ownBlock ∨ v'.ownBlock = some (w.alloc o).heap.size) :
    Fnd (w2.setCell ⟨b, 3, none⟩ v') b B vp vf vt v' np nf nt (nk + 1) xp xf xt (xk ++ [x]) :=
  ⟨h.lt, World.rowIs.congr (World.rowIs.set (h.mid (own_base h.k) hg) 3 v') (fun i hi => by match i, hi with | 0, _ => rfl | 1, _ => rfl | 2, _ => rfl | 3, _ => rfl), own_step h.p h.pk hg h.lt, own_step h.f h.fk hg h.lt, own_step h.t h.tk hg h.lt, ownsRow_setCell_below ho h.lt v',
    h.pf, h.pt, apart_new h.p h.pk hat, h.ft, apart_new h.f h.fk hat, apart_new h.t h.tk hat⟩
theorem own_other {B e : Nat} {u : Value} {m : Nat} {ys : List Value} {g j : Nat} {a : Value} (hu : w.ownsRow B e 1 u m ys) (ha : u.ownBlock = none ∨ u.ownBlock ≠ some g) : (w.setCell ⟨g, j, none⟩ a).ownsRow B e 1 u m ys :=
  ownsRow_setCell_other hu (by rcases ha with h | h
                               · rw [h]; simp
                               · exact h) a
theorem Fnd.bump {gt ct : Nat} (h : Fnd w b B vp vf (.slice (some ⟨gt, 0, none⟩) nt ct) vk np nf nt nk xp xf xt xk) (j : Nat) (u : Value) :
    Fnd (w.setCell ⟨gt, j, none⟩ u) b B vp vf (.slice (some ⟨gt, 0, none⟩) nt ct) vk np nf nt nk xp xf (xt.set j u) xk :=
  ⟨h.lt, World.rowIs.setOther h.row (by have := own_base h.t gt rfl; have := h.lt; exact fun e => by simp at e; omega) _, own_other h.p h.pt, own_other h.f h.ft, (World.ownsRow.stored h.t j u).1, own_other h.k h.tk.symm, h.pf, h.pt, h.pk, h.ft, h.fk, h.tk⟩
end
theorem bel_step {a w w2 : World} {o : Obj} {b B : Nat} {v vn : Value} (h : Below b a w) (hB : b < B) (hl : b < w.heap.size) (hv : ∀ k, v.ownBlock = some k → B ≤ k) (hg : (w.alloc o).grownBy w2 v.ownBlock) (i : Nat) : Below b a (w2.setCell ⟨b, i, none⟩ vn) :=
  ((h.alloc (by omega) o).grown hg (by simp; omega) (fun k hk => by have := hv k hk; omega)).setCell (p := ⟨b, i, none⟩) (Nat.le_refl _) vn
theorem own_blocks {w w' : World} {B e : Nat} {v : Value} {n : Nat} {xs : List Value} (h : w.ownsRow B e 1 v n xs) (hk : ∀ k, B ≤ k → w'.heap[k]? = w.heap[k]?) : w'.ownsRow B e 1 v n xs := by
  refine ⟨h.1, ?_⟩
  rcases h.2 with h2 | ⟨g, cap, cur, rfl, hg, hgb, r⟩
  · exact .inl h2
  · exact .inr ⟨g, cap, cur, rfl, hg, by rw [hk g hg]; exact hgb, r⟩
theorem pRow_one {a1 n1 c1 a2 n2 c2 a3 n3 c3 a4 n4 c4 : Nat} (i : Nat) : (pRow (.slice (some ⟨a1, 0, none⟩) n1 c1) (.slice (some ⟨a2, 0, none⟩) n2 c2) (.slice (some ⟨a3, 0, none⟩) n3 c3) (.slice (some ⟨a4, 0, none⟩) n4 c4) i).oneCell' = true := by
  unfold pRow
  split
  · rfl
  · split
    · rfl
    · split <;> rfl
theorem rowT_zero (s : ByteArray) (d n : Nat) : rowT s d n n ++ [.int .i64 0] = rowT s d n (n + 1) := by
  have e : tmTo s d n n = 0 := by
    have : ∀ m, m ≤ n → tmTo s d m n = 0 := by
      intro m
      induction m with
      | zero => intro _; rfl
      | succ m ih =>
        intro hm
        have := (fs_spec s d m).1
        rw [tmTo, ih (by omega), if_neg (by omega)]
    exact this n (Nat.le_refl _)
  have := range_app (fun i => Value.int .i64 (tmTo s d n i : Int)) n
  simp only [e] at this
  exact this
theorem rowT_bump (s : ByteArray) (d n m : Nat) : (rowT s d n m).set (fs s d n) (.int .i64 ((tmTo s d n (fs s d n) : Int) + 1)) = rowT s d (n + 1) m := by
  refine range_set ?_ (fun i hi => ?_)
  · rw [tmTo, if_pos rfl]; rfl
  · rw [tmTo, if_neg (fun e => hi e.symm)]; rfl
theorem sizePcs : (Try.prog.info? 99).map (·.size) = some 4 := by kernel_rfl
def nilS : Value := .slice none 0 0
theorem pRow_new (w : World) : (w.alloc (.cells #[.slice none 0 0, .slice none 0 0, .slice none 0 0, .slice none 0 0] 99)).rowIs w.heap.size 99 4 (pRow nilS nilS nilS nilS) :=
  World.rowIs_alloc w #[.slice none 0 0, .slice none 0 0, .slice none 0 0, .slice none 0 0] 99 (pRow nilS nilS nilS nilS) (fun i hi => by
    have hi' : i < 4 := hi
    match i, hi' with
    | 0, _ => rfl
    | 1, _ => rfl
    | 2, _ => rfl
    | 3, _ => rfl)

set_option maxRecDepth 100000 in
set_option maxHeartbeats 3200000 in
theorem find_any (s : ByteArray) (d : Nat) (w : World) (hs : s.size ≤ 800) (hd1 : 1 ≤ d) (hd : d ≤ s.size) :
    Calls Try.prog 75 #[.string s, .int .i64 d] w fun e w' => ∃ b vp vf vt vk, e = .returned (.agg (arrOf 4 (pRow vp vf vt vk))) ∧ Fnd w' b (w.heap.size + 2) vp vf vt vk (s.size - d + 1) (s.size - d + 1) (s.size - d + 1) (s.size - d + 1) (rowP s d (s.size - d + 1)) (rowF s d (s.size - d + 1)) (rowT s d (s.size - d + 1) (s.size - d + 1)) (rowK (fun _ => false) (s.size - d + 1)) ∧ Below w.heap.size w w' := by
  obtain ⟨i0, hi, hz0, hz1, hz2⟩ := info_parts Try.infoInt
  obtain ⟨i1, gi, gz0, gz1, gz2⟩ := info_parts Try.infoBool
  go_enter Try.func75, Try.ntmps75
  go_wp2
  have r0 : ((w.alloc (.cells #[.slice none 0 0, .slice none 0 0, .slice none 0 0, .slice none 0 0] 99)).alloc (.cells #[.slice none 0 0, .slice none 0 0, .slice none 0 0, .slice none 0 0] 99)).rowIs w.heap.size 99 4 (pRow nilS nilS nilS nilS) := World.rowIs.alloc (pRow_new w) _
  have r1 := pRow_new (w.alloc (.cells #[.slice none 0 0, .slice none 0 0, .slice none 0 0, .slice none 0 0] 99))
  have hsz1 : (w.alloc (.cells #[.slice none 0 0, .slice none 0 0, .slice none 0 0, .slice none 0 0] 99)).heap.size = w.heap.size + 1 := by simp
  rw [hsz1] at r1
  have bel0 : Below w.heap.size w ((w.alloc (.cells #[.slice none 0 0, .slice none 0 0, .slice none 0 0, .slice none 0 0] 99)).alloc (.cells #[.slice none 0 0, .slice none 0 0, .slice none 0 0, .slice none 0 0] 99)) := ((Below.refl _ _).alloc (Nat.le_refl _) _).alloc (by simp) _
  have hszW : ((w.alloc (.cells #[.slice none 0 0, .slice none 0 0, .slice none 0 0, .slice none 0 0] 99)).alloc (.cells #[.slice none 0 0, .slice none 0 0, .slice none 0 0, .slice none 0 0] 99)).heap.size = w.heap.size + 2 := by simp
  generalize ((w.alloc (.cells #[.slice none 0 0, .slice none 0 0, .slice none 0 0, .slice none 0 0] 99)).alloc (.cells #[.slice none 0 0, .slice none 0 0, .slice none 0 0, .slice none 0 0] 99)) = W at *
  go_loopw [6, 7, 8] (fun i _ _ wr => ∃ n : Nat, n ≤ s.size - d + 1 ∧ i = .int .i64 n ∧ (∃ vp vf vt vk, Fnd wr (w.heap.size + 1) (w.heap.size + 2) vp vf vt vk n n n n (rowP s d n) (rowF s d n) (rowT s d n n) (rowK (fun _ => false) n)) ∧ Below (w.heap.size + 1) W wr) (fun i _ _ _ => s.size - d + 1 - (intOf i).toNat)
  case atStart => exact ⟨0, Nat.zero_le _, rfl, ⟨nilS, nilS, nilS, nilS, ⟨by omega, r1, World.ownsRow_nil _ _ _ _, World.ownsRow_nil _ _ _ _, World.ownsRow_nil _ _ _ _, World.ownsRow_nil _ _ _ _, .inl rfl, .inl rfl, .inl rfl, .inl rfl, .inl rfl, .inl rfl⟩⟩, Below.refl _ _⟩
  case round =>
    obtain ⟨n, hn, rfl, ⟨vp, vf, vt, vk, hF⟩, hbel⟩ := hrel
    have hszr := hbel.size
    obtain ⟨b, hbe⟩ : ∃ b, b = w.heap.size + 1 := ⟨_, rfl⟩
    have HBE := hid hbe
    rw [← hbe] at hF hbel ⊢
    have q0 : wr.cell? ⟨b, 0, none⟩ = some vp := World.rowIs.cell hF.row (i := 0) (by omega)
    have q1 : wr.cell? ⟨b, 1, none⟩ = some vf := World.rowIs.cell hF.row (i := 1) (by omega)
    have q2 : wr.cell? ⟨b, 2, none⟩ = some vt := World.rowIs.cell hF.row (i := 2) (by omega)
    have q3 : wr.cell? ⟨b, 3, none⟩ = some vk := World.rowIs.cell hF.row (i := 3) (by omega)
    by_cases hlt : n + d ≤ s.size
    · have hcall := hid (prev_any s d n wr hs hlt)
      have hcond : (n : Int) ≤ (s.size : Int) - (d : Int) := by omega
      have hpv := prv_spec s d n
      have hp0 := hpv.1
      have hp1 := hpv.2.1
      have hfn := (fs_spec s d n).1
      have HFP := hid (fs_prv s d n)
      have HRP := hid (range_app (fun i => Value.int .i64 (prv s d i)) n)
      have HRF := hid (range_app (fun i => Value.int .i64 (fs s d i : Int)) n)
      have HRK := hid (range_app (fun _ : Nat => Value.bool false) n)
      have htm := tmTo_le s d n (fs s d n)
      clear hpv
      generalize prv s d n = P at *
      generalize hFS : fs s d n = F at *
      have HFS := hid hFS
      clear hFS hbe
      by_cases hpp : 0 ≤ P
      · have hd0 : decide (0 ≤ P) = true := by simp; omega
        obtain ⟨p, rfl⟩ := Int.eq_ofNat_of_zero_le hpp
        rw [if_pos hpp, Int.toNat_natCast] at HFP
        obtain ⟨gf, cf, rfl⟩ := own_frm hF.f (by omega)
        have cF : wr.cell? ⟨gf, p, none⟩ = some (.int .i64 (F : Int)) := by
          rw [World.ownsRow.cellAt hF.f p (by omega), HFP.out]; exact range_get _ _ _ (by omega)
        clear HFP
        go_wp2_with (first
          | (go_at_call 83; refine Calls.mono hcall.out ?_; rintro e w' ⟨rfl, rfl⟩)
          | (at_builtin; refine wpList_append_own_at _ rfl (.tmp 30) (.tmp 32) 53 rfl (w.heap.size + 2) 3 i0 (.int .i64 0) 1 8 Try.underlying53 hi hz0 hz1 hz2 rfl (by decide) _ _ _ rfl (hF.p.alloc _) ⟨_, 0, none⟩ 1 1 [.int .i64 (p : Int)] rfl rfl (cell_one_at (by first | rfl | simp)) (by intro u hu; simp at hu; subst hu; rfl) (by unfold maxLen; omega) (by omega) (by simp; omega) ?_; intro vp2 w2 o_w2 g_w2 _ t_w2; have s_w2 := g_w2.size; simp at s_w2; have m_w2 := hid (hF.mid (own_base hF.p) g_w2); have k1_w2 := pRow_c1 m_w2.out; have k0_w2 := pRow_c0 m_w2.out; have f_w2 := World.rowIs.frozen m_w2.out 0; have B2 := hid (bel_step (vn := vp2) hbel hF.lt (World.rowIs.lt hF.row) (own_base hF.p) g_w2 0); have F2 := hid (hF.appP g_w2 o_w2 t_w2); obtain ⟨gp, cp, rfl⟩ := own_frm o_w2 (by omega); clear o_w2 t_w2)
          | (at_builtin; refine wpList_append_own_at _ rfl (.tmp 36) (.tmp 38) 53 rfl (w.heap.size + 2) 3 i0 (.int .i64 0) 1 8 Try.underlying53 hi hz0 hz1 hz2 rfl (by decide) _ _ _ rfl (F2.out.f.alloc _) ⟨_, 0, none⟩ 1 1 [.int .i64 (F : Int)] rfl rfl (cell_one_at (by first | rfl | simp)) (by intro u hu; simp at hu; subst hu; rfl) (by unfold maxLen; omega) (by omega) (by simp; omega) ?_; intro vf2 w3 o_w3 g_w3 _ t_w3; have s_w3 := g_w3.size; simp at s_w3; have m_w3 := hid (F2.out.mid (own_base F2.out.f) g_w3); have k2_w3 := pRow_c2 m_w3.out; have k1_w3 := pRow_c1 m_w3.out; have f_w3 := World.rowIs.frozen m_w3.out 1; have B3 := hid (bel_step (vn := vf2) B2.out F2.out.lt (World.rowIs.lt F2.out.row) (own_base F2.out.f) g_w3 1); have F3 := hid (F2.out.appF g_w3 o_w3 t_w3); obtain ⟨gf2, cf2, rfl⟩ := own_frm o_w3 (by omega); clear o_w3 t_w3)
          | (at_builtin; refine wpList_append_own_at _ rfl (.tmp 42) (.tmp 43) 53 rfl (w.heap.size + 2) 3 i0 (.int .i64 0) 1 8 Try.underlying53 hi hz0 hz1 hz2 rfl (by decide) _ _ _ rfl (F3.out.t.alloc _) ⟨_, 0, none⟩ 1 1 [.int .i64 0] rfl rfl (cell_one_at (by first | rfl | simp)) (by intro u hu; simp at hu; subst hu; rfl) (by unfold maxLen; omega) (by omega) (by simp; omega) ?_; intro vt2 w4 o_w4 g_w4 _ t_w4; have s_w4 := g_w4.size; simp at s_w4; have m_w4 := hid (F3.out.mid (own_base F3.out.t) g_w4); have k3_w4 := pRow_c3 m_w4.out; have k2_w4 := pRow_c2 m_w4.out; have f_w4 := World.rowIs.frozen m_w4.out 2; have B4 := hid (bel_step (vn := vt2) B3.out F3.out.lt (World.rowIs.lt F3.out.row) (own_base F3.out.t) g_w4 2); have F4 := hid (F3.out.appT g_w4 o_w4 t_w4); obtain ⟨gt, ct, rfl⟩ := own_frm o_w4 (by omega); clear o_w4 t_w4)
          | (at_builtin; refine wpList_append_own_at _ rfl (.tmp 47) (.tmp 48) 97 rfl (w.heap.size + 2) 4 i1 (.bool false) 1 1 Try.underlying97 gi gz0 gz1 gz2 rfl (by decide) _ _ _ rfl (F4.out.k.alloc _) ⟨_, 0, none⟩ 1 1 [.bool false] rfl rfl (cell_one_at (by first | rfl | simp)) (by intro u hu; simp at hu; subst hu; rfl) (by unfold maxLen; omega) (by omega) (by simp; omega) ?_; intro vk2 w5 o_w5 g_w5 _ t_w5; have s_w5 := g_w5.size; simp at s_w5; have m_w5 := hid (F4.out.mid (own_base F4.out.k) g_w5); have k2_w5 := pRow_c2 m_w5.out; have k3_w5 := pRow_c3 m_w5.out; have f_w5 := World.rowIs.frozen m_w5.out 3; have B5 := hid (bel_step (vn := vk2) B4.out F4.out.lt (World.rowIs.lt F4.out.row) (own_base F4.out.k) g_w5 3); have F5 := hid (F4.out.appK g_w5 o_w5 t_w5); obtain ⟨gk, ck, rfl⟩ := own_frm o_w5 (by omega); clear o_w5 t_w5; have hTc := (World.ownsRow.cellAt F5.out.t F (by omega)).trans (show _ = some (Value.int .i64 (tmTo s d n F : Int)) from by rw [rowT_zero]; exact range_get _ _ _ (by omega)); have hTf := World.ownsRow.frozenAt F5.out.t F))
        go_roundw
        case rel =>
          have F6 := F5.out.bump F (.int .i64 ((tmTo s d n F : Int) + 1))
          rw [rowT_zero, show (rowT s d n (n + 1)).set F (.int .i64 ((tmTo s d n F : Int) + 1)) = rowT s d (n + 1) (n + 1) from by have q := rowT_bump s d n (n + 1); rw [HFS.out] at q; exact q] at F6
          have F7 := F6
          rw [show rowP s d n ++ [Value.int .i64 (p : Int)] = rowP s d (n + 1) from HRP.out, show rowF s d n ++ [Value.int .i64 (F : Int)] = rowF s d (n + 1) from HRF.out, show rowK (fun _ => false) n ++ [Value.bool false] = rowK (fun _ => false) (n + 1) from HRK.out] at F7
          have B6 := B5.out.setCell (p := ⟨gt, F, none⟩) (show b ≤ gt by have := own_base F5.out.t gt rfl; have := F5.out.lt; omega) (.int .i64 ((tmTo s d n F : Int) + 1))
          have hbe := HBE.out
          subst hbe
          first
            | exact ⟨n + 1, by omega, by go_num, ⟨_, _, _, _, F7⟩, B6⟩
            | ((repeat apply Exists.intro); exact ⟨⟨n + 1, by omega, by go_num, ⟨_, _, _, _, F7⟩, B6⟩, rfl⟩)
        case measure => simp [intOf]; omega
      · have hd0 : decide (0 ≤ P) = false := by simp; omega
        rw [if_neg hpp] at HFP
        have hFn := HFP.out.symm
        subst hFn
        clear HFP
        go_wp2_with (first
          | (go_at_call 83; refine Calls.mono hcall.out ?_; rintro e w' ⟨rfl, rfl⟩)
          | (at_builtin; refine wpList_append_own_at _ rfl (.tmp 30) (.tmp 32) 53 rfl (w.heap.size + 2) 3 i0 (.int .i64 0) 1 8 Try.underlying53 hi hz0 hz1 hz2 rfl (by decide) _ _ _ rfl (hF.p.alloc _) ⟨_, 0, none⟩ 1 1 [.int .i64 P] rfl rfl (cell_one_at (by first | rfl | simp)) (by intro u hu; simp at hu; subst hu; rfl) (by unfold maxLen; omega) (by omega) (by simp; omega) ?_; intro vp2 w2 o_w2 g_w2 _ t_w2; have s_w2 := g_w2.size; simp at s_w2; have m_w2 := hid (hF.mid (own_base hF.p) g_w2); have k1_w2 := pRow_c1 m_w2.out; have k0_w2 := pRow_c0 m_w2.out; have f_w2 := World.rowIs.frozen m_w2.out 0; have B2 := hid (bel_step (vn := vp2) hbel hF.lt (World.rowIs.lt hF.row) (own_base hF.p) g_w2 0); have F2 := hid (hF.appP g_w2 o_w2 t_w2); obtain ⟨gp, cp, rfl⟩ := own_frm o_w2 (by omega); clear o_w2 t_w2)
          | (at_builtin; refine wpList_append_own_at _ rfl (.tmp 36) (.tmp 38) 53 rfl (w.heap.size + 2) 3 i0 (.int .i64 0) 1 8 Try.underlying53 hi hz0 hz1 hz2 rfl (by decide) _ _ _ rfl (F2.out.f.alloc _) ⟨_, 0, none⟩ 1 1 [.int .i64 (n : Int)] rfl rfl (cell_one_at (by first | rfl | simp)) (by intro u hu; simp at hu; subst hu; rfl) (by unfold maxLen; omega) (by omega) (by simp; omega) ?_; intro vf2 w3 o_w3 g_w3 _ t_w3; have s_w3 := g_w3.size; simp at s_w3; have m_w3 := hid (F2.out.mid (own_base F2.out.f) g_w3); have k2_w3 := pRow_c2 m_w3.out; have k1_w3 := pRow_c1 m_w3.out; have f_w3 := World.rowIs.frozen m_w3.out 1; have B3 := hid (bel_step (vn := vf2) B2.out F2.out.lt (World.rowIs.lt F2.out.row) (own_base F2.out.f) g_w3 1); have F3 := hid (F2.out.appF g_w3 o_w3 t_w3); obtain ⟨gf2, cf2, rfl⟩ := own_frm o_w3 (by omega); clear o_w3 t_w3)
          | (at_builtin; refine wpList_append_own_at _ rfl (.tmp 42) (.tmp 43) 53 rfl (w.heap.size + 2) 3 i0 (.int .i64 0) 1 8 Try.underlying53 hi hz0 hz1 hz2 rfl (by decide) _ _ _ rfl (F3.out.t.alloc _) ⟨_, 0, none⟩ 1 1 [.int .i64 0] rfl rfl (cell_one_at (by first | rfl | simp)) (by intro u hu; simp at hu; subst hu; rfl) (by unfold maxLen; omega) (by omega) (by simp; omega) ?_; intro vt2 w4 o_w4 g_w4 _ t_w4; have s_w4 := g_w4.size; simp at s_w4; have m_w4 := hid (F3.out.mid (own_base F3.out.t) g_w4); have k3_w4 := pRow_c3 m_w4.out; have k2_w4 := pRow_c2 m_w4.out; have f_w4 := World.rowIs.frozen m_w4.out 2; have B4 := hid (bel_step (vn := vt2) B3.out F3.out.lt (World.rowIs.lt F3.out.row) (own_base F3.out.t) g_w4 2); have F4 := hid (F3.out.appT g_w4 o_w4 t_w4); obtain ⟨gt, ct, rfl⟩ := own_frm o_w4 (by omega); clear o_w4 t_w4)
          | (at_builtin; refine wpList_append_own_at _ rfl (.tmp 47) (.tmp 48) 97 rfl (w.heap.size + 2) 4 i1 (.bool false) 1 1 Try.underlying97 gi gz0 gz1 gz2 rfl (by decide) _ _ _ rfl (F4.out.k.alloc _) ⟨_, 0, none⟩ 1 1 [.bool false] rfl rfl (cell_one_at (by first | rfl | simp)) (by intro u hu; simp at hu; subst hu; rfl) (by unfold maxLen; omega) (by omega) (by simp; omega) ?_; intro vk2 w5 o_w5 g_w5 _ t_w5; have s_w5 := g_w5.size; simp at s_w5; have m_w5 := hid (F4.out.mid (own_base F4.out.k) g_w5); have k2_w5 := pRow_c2 m_w5.out; have k3_w5 := pRow_c3 m_w5.out; have f_w5 := World.rowIs.frozen m_w5.out 3; have B5 := hid (bel_step (vn := vk2) B4.out F4.out.lt (World.rowIs.lt F4.out.row) (own_base F4.out.k) g_w5 3); have F5 := hid (F4.out.appK g_w5 o_w5 t_w5); obtain ⟨gk, ck, rfl⟩ := own_frm o_w5 (by omega); clear o_w5 t_w5; have hTc := (World.ownsRow.cellAt F5.out.t n (by omega)).trans (show _ = some (Value.int .i64 (tmTo s d n n : Int)) from by rw [rowT_zero]; exact range_get _ _ _ (by omega)); have hTf := World.ownsRow.frozenAt F5.out.t n))
        go_roundw
        case rel =>
          have F6 := F5.out.bump n (.int .i64 ((tmTo s d n n : Int) + 1))
          rw [rowT_zero, show (rowT s d n (n + 1)).set n (.int .i64 ((tmTo s d n n : Int) + 1)) = rowT s d (n + 1) (n + 1) from by have q := rowT_bump s d n (n + 1); rw [HFS.out] at q; exact q] at F6
          have F7 := F6
          rw [show rowP s d n ++ [Value.int .i64 P] = rowP s d (n + 1) from HRP.out, show rowF s d n ++ [Value.int .i64 (n : Int)] = rowF s d (n + 1) from HRF.out, show rowK (fun _ => false) n ++ [Value.bool false] = rowK (fun _ => false) (n + 1) from HRK.out] at F7
          have B6 := B5.out.setCell (p := ⟨gt, n, none⟩) (show b ≤ gt by have := own_base F5.out.t gt rfl; have := F5.out.lt; omega) (.int .i64 ((tmTo s d n n : Int) + 1))
          have hbe := HBE.out
          subst hbe
          first
            | exact ⟨n + 1, by omega, by go_num, ⟨_, _, _, _, F7⟩, B6⟩
            | ((repeat apply Exists.intro); exact ⟨⟨n + 1, by omega, by go_num, ⟨_, _, _, _, F7⟩, B6⟩, rfl⟩)
        case measure => simp [intOf]; omega
    · have HN := hid (show n = s.size - d + 1 from by omega)
      have hcond : decide ((n : Int) ≤ (s.size : Int) - (d : Int)) = false := by simp; omega
      obtain ⟨gp, cp, rfl⟩ := own_frm hF.p (by omega)
      obtain ⟨gf, cf, rfl⟩ := own_frm hF.f (by omega)
      obtain ⟨gt, ct, rfl⟩ := own_frm hF.t (by omega)
      obtain ⟨gk, ck, rfl⟩ := own_frm hF.k (by omega)
      have hq0 : wr.rowIs w.heap.size 99 4 (pRow nilS nilS nilS nilS) := World.rowIs.of_block r0 (hbel.block _ (by omega))
      have hrow := hF.row
      have HF := hid hF
      clear hF q0 q1 q2 q3 r0 r1
      go_wp2_with (first
        | (refine wpList_load_rowIs rfl 99 (.tmp 5) rfl b rfl 99 4 _ hrow _ Try.underlying99 rfl sizePcs ?_)
        | (refine wpList_store_rowIs rfl 99 (.tmp 4) (.tmp 58) rfl w.heap.size rfl 99 4 (pRow nilS nilS nilS nilS) _ hq0 rfl sizePcs (fun i _ => pRow_one i) ?_; intro w5 q5 b5 o5 s5))
      have hr := run_loadVar_rowIs (P := Try.prog) w5 w.heap.size 99 99 4 _ _ q5 Try.underlying99 rfl sizePcs
      refine bodyPost_ret (v := .agg (arrOf 4 (pRow (.slice (some ⟨gp, 0, none⟩) n cp) (.slice (some ⟨gf, 0, none⟩) n cf) (.slice (some ⟨gt, 0, none⟩) n ct) (.slice (some ⟨gk, 0, none⟩) n ck)))) ?_ rfl ⟨b, _, _, _, _, rfl, ?_, ?_⟩
      · simp [results, Try.results75, asAddr, Act.put, hr]
      · rw [← HN.out]
        have hbw := HBE.out
        have hF := HF.out
        have ho : ∀ k, w.heap.size + 2 ≤ k → w5.heap[k]? = wr.heap[k]? := fun k hk => o5 k (by omega)
        exact ⟨hF.lt, World.rowIs.of_block hF.row (o5 b (by omega)), own_blocks hF.p ho, own_blocks hF.f ho, own_blocks hF.t ho, own_blocks hF.k ho, hF.pf, hF.pt, hF.pk, hF.ft, hF.fk, hF.tk⟩
      · exact (bel0.trans (hbel.mono (by have := HBE.out; omega))).trans b5
end Go.Proofs.Ytopegpilfoajhaa

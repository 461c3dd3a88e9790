/-
  A buffer of bytes that was made of a text ('[]byte(s)'): its row carries a mark behind its end. What append does to it.
  P12: the walk of bodies.play.
-/
import Derived.Test.YtnconbpneimjiaaTabWalks
import Derived.Lib.FrozenHead2
import Derived.Laws.IdiomStrings
import Derived.Test.YtnconbpneimjiaaRdWalk
namespace Go.Proofs.Ytnconbpneimjiaa
open Go.RowKit Go.PlainAid Go.Lib

/-! ### A buffer of bytes that was made of a text ('[]byte(s)'): its row carries a mark behind its end. What append does to it. -/
/-- The call's own slice of bytes; what is frozen of its row lies within the elements or behind the row. -/
def Buf (w : World) (base e : Nat) (v : Value) (n : Nat) (xs : List Value) : Prop :=
  xs.length = n ∧ ∃ g cap cur fz, v = .slice (some ⟨g, 0, none⟩) n cap ∧ base ≤ g ∧ w.heap[g]? = some (.cells cur e fz) ∧ (fz.2 ≤ n ∨ cap ≤ fz.1) ∧ n ≤ cap ∧ cap ≤ maxLen ∧ cur.size = cap ∧ cur.toList.take n = xs
theorem Buf.lt {w : World} {base e n : Nat} {v : Value} {xs : List Value} (h : Buf w base e v n xs) : ∀ k, v.ownBlock = some k → base ≤ k ∧ k < w.heap.size := by
  intro k hk
  obtain ⟨_, g, cap, cur, fz, rfl, hb, hg, _⟩ := h
  simp [Value.ownBlock] at hk
  subst hk
  exact ⟨hb, (Array.getElem?_eq_some_iff.1 hg).1⟩
theorem Buf.below {w w' : World} {base e n : Nat} {v : Value} {xs : List Value} (h : Buf w base e v n xs) (hb : Below w.heap.size w w') : Buf w' base e v n xs := by
  have hl := h.lt
  obtain ⟨h0, g, cap, cur, fz, rfl, h1, hg, r⟩ := h
  exact ⟨h0, g, cap, cur, fz, rfl, h1, by rw [hb.block g (hl g rfl).2]; exact hg, r⟩
theorem Buf.cell {w : World} {base e n : Nat} {v : Value} {xs : List Value} (h : Buf w base e v n xs) : ∃ g cap, v = .slice (some ⟨g, 0, none⟩) n cap ∧ n ≤ cap ∧ cap ≤ maxLen ∧ ∀ j, j < n → w.cell? ⟨g, j, none⟩ = xs[j]? := by
  obtain ⟨h0, g, cap, cur, fz, rfl, h1, hg, _, h3, h4, h5, h6⟩ := h
  refine ⟨g, cap, rfl, h3, h4, fun j hj => ?_⟩
  rw [cell_of_row w g j cur e fz hg, ← h6, List.getElem?_take, if_pos hj]
  simp
theorem storeG (P : Program) (g o : Nat) (t : TypeId) (fz : Nat × Nat) : ∀ (vs : List Value) (i : Nat) (cur : Array Value) (w : World), w.heap[g]? = some (.cells cur t fz) → (fz.2 ≤ o + i ∨ cur.size ≤ fz.1) → o + i + vs.length ≤ cur.size → (∀ v ∈ vs, v.oneCell' = true) →
    (storeCells ⟨g, o, none⟩ vs i).run P w = .ok () (w.setRow g (cur.toList.take (o + i) ++ vs ++ cur.toList.drop (o + i + vs.length)).toArray) := by
  intro vs
  induction vs with
  | nil =>
    intro i cur w hg _ _ _
    simp only [storeCells, List.append_nil, List.length_nil, Nat.add_zero, List.take_append_drop, Array.toArray_toList]
    rw [setRow_self w g cur t fz hg]
    rfl
  | cons v rest ih =>
    intro i cur w hg hfz hl h1
    have hi : o + i < cur.size := by simp at hl; omega
    have hadd : (⟨g, o, none⟩ : Addr).add i = ⟨g, o + i, none⟩ := by unfold Addr.add; split <;> simp_all
    have hcell : w.cell? ⟨g, o + i, none⟩ = some cur[o + i] := by simp [World.cell?, hg, hi]
    have hfro : w.frozen? ⟨g, o + i, none⟩ = false := by
      obtain ⟨lo, hi'⟩ := fz
      simp only [World.frozen?, hg, Bool.and_eq_false_iff, decide_eq_false_iff_not]
      simp only at hfz
      omega
    have hst : (store ((⟨g, o, none⟩ : Addr).add i) v).run P w = .ok () (w.setRow g (cur.setIfInBounds (o + i) v)) := by
      rw [hadd, run_store P w _ v _ (h1 v (by simp)), hcell]
      simp [hfro, setCell_eq_setRow w g (o + i) cur t fz v hg]
    have ih := ih (i + 1) (cur.setIfInBounds (o + i) v) (w.setRow g (cur.setIfInBounds (o + i) v)) (setRow_heap w g cur _ t _ hg) (by rw [Array.size_setIfInBounds]; omega) (by simp at hl ⊢; omega) (fun x hx => h1 x (by simp [hx]))
    simp only [storeCells, Sem.run_bind, hst, Result.andThen_ok, ih, setRow_setRow]
    congr 3
    have e := list_seg_step cur.toList (o + i) v rest (by simp at hl ⊢; omega)
    simpa [Array.toList_setIfInBounds, Nat.add_assoc] using e
section
variable {P : Program} (w : World)
/-- A text laid behind. -/
theorem run_buf_text (base : Nat) (t u ty e : TypeId) (i : TypeInfo) (ht : P.underlying t = some (.slice e)) (hu : P.underlying u = some .string) (hi : P.info? e = some i) (hz : i.zero = some (.int .u8 0))
    (hsize : i.size = 1) (hby : i.bytes = 1) (v : Value) (n : Nat) (xs : List Value) (hown : Buf w base e v n xs) (s : ByteArray)
    (hbytes : n + s.size ≤ 140737488355328) (hbase : base ≤ w.heap.size) :
    ∃ v' w', (Builtin.append_ #[t, u] ty #[v, .string s]).run P w = .ok v' w' ∧ Buf w' base e v' (n + s.size) (xs ++ strCells s) ∧ w.grownBy w' v.ownBlock := by
  have h63 : n + s.size ≤ maxLen := by unfold maxLen; omega
  have hcl := hown.cell
  obtain ⟨hxl, g, cap, cur, fz, rfl, hbg, hg, hfz, hnc, hcm, hcs, htake⟩ := hown
  have hlen : (xs ++ strCells s).length = n + s.size := by rw [List.length_append, hxl, strCells_length]
  by_cases hroom : n + s.size ≤ cap
  · have hf := run_firstCells_string (P := P) w 1 s
    have hst := storeG P g n e fz (strCells s) 0 cur w hg (by rw [hcs]; simpa using hfz) (by rw [strCells_length]; omega) (strCells_oneCell s)
    simp only [Nat.add_zero, strCells_length] at hst
    have hr : (Builtin.append_ #[t, u] ty #[.slice (some ⟨g, 0, none⟩) n cap, .string s]).run P w = .ok (.slice (some ⟨g, 0, none⟩) (n + s.size) cap) (w.setRow g (cur.toList.take n ++ strCells s ++ cur.toList.drop (n + s.size)).toArray) := by
      simp [Builtin.append_, run_underlying ht, run_underlying hu, sizeOf, typeInfo, hi, hsize, Builtin.lenOf, hroom, hf, Addr.add_lit, hst]
    refine ⟨_, _, hr, ⟨hlen, g, cap, _, fz, rfl, hbg, setRow_heap w g cur _ e _ hg, by omega, hroom, hcm, ?_, ?_⟩, ⟨rfl, rfl, rfl, by simp, fun k _ hk => setRow_other w g k _ (fun e => hk (by simp [Value.ownBlock, e]))⟩⟩
    · simp only [List.size_toArray, List.length_append, List.length_take, List.length_drop, Array.length_toList, strCells_length]
      omega
    · rw [htake, ← hlen]
      exact List.take_left
  · have holds : ∀ j u, xs[j]? = some u → w.cell? ((⟨g, 0, none⟩ : Addr).add j) = some u := by
      intro j u hj
      have hjn : j < n := by have := (List.getElem?_eq_some_iff.1 hj).1; omega
      obtain ⟨g', cap', hv, _, _, hc⟩ := hcl
      simp only [Value.slice.injEq, Option.some.injEq, Addr.mk.injEq] at hv
      obtain ⟨⟨rfl, _⟩, _⟩ := hv
      have hadd : (⟨g, 0, none⟩ : Addr).add j = ⟨g, j, none⟩ := by unfold Addr.add; split <;> simp_all
      rw [hadd, hc j hjn]; exact hj
    have hr := run_append_grow_string (P := P) w t u ty e i (.int .u8 0) ht hu hi hz ⟨g, 0, none⟩ n cap xs (by rw [hsize]; simpa using hxl) holds s (by omega) (by omega) (by rw [hby]; exact growslice_fits (by omega) (by omega))
    have hge := grownCap_ge w (n + s.size) cap e
    have hcm2 : grownCap w (n + s.size) cap e ≤ maxLen := grownCap_le_maxLen w (n + s.size) cap e h63
    refine ⟨_, _, hr, ⟨hlen, w.heap.size, _, _, (0, 0), rfl, hbase, Go.heap_alloc_new w.drew _, .inl (Nat.zero_le _), hge, hcm2, ?_, ?_⟩, ⟨rfl, rfl, rfl, by simp, fun k hk _ => Go.heap_alloc_old w.drew _ hk⟩⟩
    · have hz1 : (Value.int IntKind.u8 0).cells.size = 1 := rfl
      simp only [Array.size_append, List.size_toArray, size_zeroCells, hz1, hxl, strCells_length]
      omega
    · simp only [Array.toList_append, List.append_assoc]
      rw [← List.append_assoc, ← hlen]
      exact List.take_left
/-- One byte laid behind. -/
theorem run_buf_byte (base : Nat) (t ty e : TypeId) (i : TypeInfo) (ht : P.underlying t = some (.slice e)) (hi : P.info? e = some i) (hz : i.zero = some (.int .u8 0))
    (hsize : i.size = 1) (hby : i.bytes = 1) (v : Value) (n : Nat) (xs : List Value) (hown : Buf w base e v n xs) (a : Addr) (x : Int) (ha : w.cell? (a.add 0) = some (.int .u8 x))
    (hbytes : n + 1 ≤ 140737488355328) (hbase : base ≤ w.heap.size) :
    ∃ v' w', (Builtin.append_ #[t, t] ty #[v, .slice (some a) 1 1]).run P w = .ok v' w' ∧ Buf w' base e v' (n + 1) (xs ++ [.int .u8 x]) ∧ w.grownBy w' v.ownBlock := by
  have h63 : n + 1 ≤ maxLen := by unfold maxLen; omega
  have hcl := hown.cell
  have hnews : ∀ j u, [Value.int .u8 x][j]? = some u → w.cell? (a.add j) = some u := by
    intro j u hj
    match j, hj with
    | 0, hj => simp at hj; subst hj; exact ha
    | (j + 1), hj => simp at hj
  obtain ⟨hxl, g, cap, cur, fz, rfl, hbg, hg, hfz, hnc, hcm, hcs, htake⟩ := hown
  have hlen : (xs ++ [Value.int .u8 x]).length = n + 1 := by rw [List.length_append, hxl]; rfl
  by_cases hroom : n + 1 ≤ cap
  · have hf := run_firstCells_some (P := P) w i.size 1 a 1 1 [Value.int .u8 x] (by rw [hsize]; rfl) hnews
    have hst := storeG P g n e fz [Value.int .u8 x] 0 cur w hg (by rw [hcs]; simpa using hfz) (by simp; omega) (by intro u hu; simp at hu; subst hu; rfl)
    simp only [Nat.add_zero, List.length_singleton] at hst
    rw [hsize] at hf
    have hr : (Builtin.append_ #[t, t] ty #[.slice (some ⟨g, 0, none⟩) n cap, .slice (some a) 1 1]).run P w = .ok (.slice (some ⟨g, 0, none⟩) (n + 1) cap) (w.setRow g (cur.toList.take n ++ [Value.int .u8 x] ++ cur.toList.drop (n + 1)).toArray) := by
      simp [Builtin.append_, run_underlying ht, sizeOf, typeInfo, hi, hsize, Builtin.lenOf, hroom, hf, Addr.add_lit, hst]
    refine ⟨_, _, hr, ⟨hlen, g, cap, _, fz, rfl, hbg, setRow_heap w g cur _ e _ hg, by omega, hroom, hcm, ?_, ?_⟩, ⟨rfl, rfl, rfl, by simp, fun k _ hk => setRow_other w g k _ (fun e => hk (by simp [Value.ownBlock, e]))⟩⟩
    · simp only [List.size_toArray, List.length_append, List.length_take, List.length_drop, Array.length_toList, List.length_singleton]
      omega
    · rw [htake, ← hlen]
      exact List.take_left
  · have holds : ∀ j u, xs[j]? = some u → w.cell? ((⟨g, 0, none⟩ : Addr).add j) = some u := by
      intro j u hj
      have hjn : j < n := by have := (List.getElem?_eq_some_iff.1 hj).1; omega
      obtain ⟨g', cap', hv, _, _, hc⟩ := hcl
      simp only [Value.slice.injEq, Option.some.injEq, Addr.mk.injEq] at hv
      obtain ⟨⟨rfl, _⟩, _⟩ := hv
      have hadd : (⟨g, 0, none⟩ : Addr).add j = ⟨g, j, none⟩ := by unfold Addr.add; split <;> simp_all
      rw [hadd, hc j hjn]; exact hj
    have hr := run_append_grow (P := P) w t ty e i (.int .u8 0) ht hi hz ⟨g, 0, none⟩ n cap xs (by rw [hsize]; simpa using hxl) holds a 1 1 [Value.int .u8 x] (by rw [hsize]; rfl) hnews (by omega) (by omega) (by rw [hby]; exact growslice_fits (by omega) (by omega))
    have hge := grownCap_ge w (n + 1) cap e
    have hcm2 : grownCap w (n + 1) cap e ≤ maxLen := grownCap_le_maxLen w (n + 1) cap e h63
    refine ⟨_, _, hr, ⟨hlen, w.heap.size, _, _, (0, 0), rfl, hbase, Go.heap_alloc_new w.drew _, .inl (Nat.zero_le _), hge, hcm2, ?_, ?_⟩, ⟨rfl, rfl, rfl, by simp, fun k hk _ => Go.heap_alloc_old w.drew _ hk⟩⟩
    · have hz1 : (Value.int IntKind.u8 0).cells.size = 1 := rfl
      simp only [Array.size_append, List.size_toArray, size_zeroCells, hz1, hxl, List.length_singleton]
      omega
    · simp only [Array.toList_append, List.append_assoc]
      rw [← List.append_assoc, ← hlen]
      exact List.take_left
theorem wpList_buf_text {ops : Array Oper} {rest : List Oper} {o : Oper} {a : Act} {Q : Exit → Act → World → Prop} (hgd : o.guard = none) (sl x : Operand) (t u : TypeId)
    (ho : o.op = .call { callee := .builtin .append, args := #[sl, x], argTypes := #[t, u] })
    (base : Nat) (e : TypeId) (i : TypeInfo) (ht : P.underlying t = some (.slice e)) (hu : P.underlying u = some .string) (hi : P.info? e = some i) (hz : i.zero = some (.int .u8 0)) (hsize : i.size = 1) (hby : i.bytes = 1)
    (v : Value) (n : Nat) (xs : List Value) (hs : a.eval sl = v) (hown : Buf w base e v n xs) (s : ByteArray) (hx : a.eval x = .string s) (hbytes : n + s.size ≤ 140737488355328) (hbase : base ≤ w.heap.size)
    (h : ∀ v' w', Buf w' base e v' (n + s.size) (xs ++ strCells s) → w.grownBy w' v.ownBlock → wpList P ops Q rest (a.put o.dst v') w') : wpList P ops Q (o :: rest) a w := by
  refine wpList_plain hgd fun K hK => ?_
  obtain ⟨v', w', hr, h2, h3⟩ := run_buf_text (P := P) w base t u o.type e i ht hu hi hz hsize hby v n xs hown s hbytes hbase
  unfold Oper.wp execOp
  simp only [ho, resolve, invoke, builtin, Sem.run_bind, Sem.run_pure, Result.andThen_ok, List.map_toArray, List.map_cons, List.map_nil, hs, hx, hr]
  exact hK _ _ (h v' w' h2 h3)
theorem wpList_buf_byte {ops : Array Oper} {rest : List Oper} {o : Oper} {a : Act} {Q : Exit → Act → World → Prop} (hgd : o.guard = none) (s x : Operand) (t : TypeId)
    (ho : o.op = .call { callee := .builtin .append, args := #[s, x], argTypes := #[t, t] })
    (base : Nat) (e : TypeId) (i : TypeInfo) (ht : P.underlying t = some (.slice e)) (hi : P.info? e = some i) (hz : i.zero = some (.int .u8 0)) (hsize : i.size = 1) (hby : i.bytes = 1)
    (v : Value) (n : Nat) (xs : List Value) (hs : a.eval s = v) (hown : Buf w base e v n xs) (ad : Addr) (y : Int) (hx : a.eval x = .slice (some ad) 1 1) (hy : w.cell? (ad.add 0) = some (.int .u8 y))
    (hbytes : n + 1 ≤ 140737488355328) (hbase : base ≤ w.heap.size)
    (h : ∀ v' w', Buf w' base e v' (n + 1) (xs ++ [.int .u8 y]) → w.grownBy w' v.ownBlock → wpList P ops Q rest (a.put o.dst v') w') : wpList P ops Q (o :: rest) a w := by
  refine wpList_plain hgd fun K hK => ?_
  obtain ⟨v', w', hr, h2, h3⟩ := run_buf_byte (P := P) w base t o.type e i ht hi hz hsize hby v n xs hown ad y hy hbytes hbase
  unfold Oper.wp execOp
  simp only [ho, resolve, invoke, builtin, Sem.run_bind, Sem.run_pure, Result.andThen_ok, List.map_toArray, List.map_cons, List.map_nil, hs, hx, hr]
  exact hK _ _ (h v' w' h2 h3)
end
/-- What a conversion makes is such a buffer. -/
theorem Buf.conv (w : World) (e : TypeId) (s : ByteArray) (hs : s.size ≤ maxLen) :
    Buf (w.drew.alloc (.cells (bytesRow s (grownCap w s.size 0 e)) e ((bytesRow s (grownCap w s.size 0 e)).size, (bytesRow s (grownCap w s.size 0 e)).size + 1))) w.heap.size e (.slice (some ⟨w.heap.size, 0, none⟩) s.size (grownCap w s.size 0 e)) s.size (strCells s) := by
  have hge := grownCap_ge w s.size 0 e
  have hle := grownCap_le_maxLen w s.size 0 e hs
  have hz : (bytesRow s (grownCap w s.size 0 e)).size = grownCap w s.size 0 e := by
    simp [bytesRow]
    have : s.data.size = s.size := rfl
    omega
  refine ⟨strCells_length s, w.heap.size, _, _, _, rfl, Nat.le_refl _, Go.heap_alloc_new w.drew _, .inr (by simp only; omega), hge, hle, hz, ?_⟩
  simp [bytesRow, strCells]

/-! ### P12: the walk of bodies.play. -/
theorem strCells_app (a b : ByteArray) : strCells (a ++ b) = strCells a ++ strCells b := by
  unfold strCells
  rw [ByteArray.data_append]
  simp
theorem strCells_one (x : Nat) (h : x < 256) : strCells (strN [x]) = [.int .u8 (x : Int)] := by
  simp [strCells, strN, strOfNums, ints]
  omega
theorem strCells_get (s : ByteArray) (j : Nat) (h : j < s.size) : (strCells s)[j]? = some (.int .u8 (btn s j : Int)) := by
  have e := get_btn s j h
  have hd : j < s.data.size := h
  simp only [strCells, List.getElem?_map, Array.getElem?_toList, Array.getElem?_eq_getElem hd, Option.map_some, Option.some.injEq, Value.int.injEq, true_and]
  exact e
theorem tail_is (s : ByteArray) (c : Nat) (h : c ≤ s.size) : strN ((List.range (s.size - c)).map (fun i => btn s (c + i))) = s.extract c s.size := by
  have hl : ((List.range (s.size - c)).map (fun i => btn s (c + i))).length = s.size - c := by simp
  refine text_ext (by rw [strN_size, hl, ext_size _ _ _ (Nat.le_refl _)]) (fun i hi => ?_)
  rw [strN_size, hl] at hi
  rw [strN_btn _ (fun x hx => by simp at hx; obtain ⟨i, _, rfl⟩ := hx; exact btn_lt _ _), btn_ext s c s.size i (by omega) (Nat.le_refl _), List.getD_eq_getElem?_getD]
  simp [hi]
/-- 'string(laid[c:])'. -/
theorem conv_tail {w : World} {base g cap c n : Nat} {s : ByteArray} (h : Buf w base 5 (.slice (some ⟨g, 0, none⟩) n cap) n (strCells s)) (hn : s.size = n) (hc : c ≤ n) (cap' : Nat) :
    (convert 29 9 (.slice (some ⟨g, c, none⟩) (n - c) cap')).run Try.prog w = .ok (.string (s.extract c s.size)) w := by
  subst hn
  obtain ⟨g', cap2, hv, _, _, hcell⟩ := h.cell
  simp only [Value.slice.injEq, Option.some.injEq, Addr.mk.injEq] at hv
  obtain ⟨⟨rfl, _⟩, _⟩ := hv
  have r := run_convert_bytes_arg (P := Try.prog) w 29 5 Try.underlying29 Try.underlying5 g c (s.size - c) cap' (ints ((List.range (s.size - c)).map (fun i => btn s (c + i)))) (by simp [ints]) (fun i hi => by
    rw [hcell (c + i) (by omega), strCells_get s (c + i) (by omega)]
    simp [ints, hi]) 9 Try.underlying9
  rw [r, ← tail_is s c hc]
  rfl
theorem conv_tail0 {w : World} {g n : Nat} (h : n = 0) (cap' : Nat) :
    (convert 29 9 (.slice (some ⟨g, 0, none⟩) n cap')).run Try.prog w = .ok (.string ⟨#[]⟩) w := by
  subst h
  have r := run_convert_bytes_arg (P := Try.prog) w 29 5 Try.underlying29 Try.underlying5 g 0 0 cap' [] rfl (fun i hi => by omega) 9 Try.underlying9
  rw [r]; rfl
/-- A text, or that there is none. -/
def optV (o : Option ByteArray) : Value := match o with
  | none => .tuple #[.string ⟨#[]⟩, .bool false]
  | some r => .tuple #[.string r, .bool true]
theorem optV_none {o : Option ByteArray} (h : o = none) : .tuple #[.string ⟨#[]⟩, .bool false] = optV o := by rw [h]; rfl
theorem optV_some {o : Option ByteArray} {r : ByteArray} (h : o = some r) : .tuple #[.string r, .bool true] = optV o := by rw [h]; rfl
theorem pyS_cons (lim : Nat) (x1 x2 x3 : Nat) (l : List (Nat × Nat × Nat)) (all lo : ByteArray) : pyS lim ((x1, x2, x3) :: l) all lo = if lo.size < x1 then none else if x3 < 1 ∨ all.size + x1 < x3 ∨ lim < all.size + x1 + x2 then none
    else pyS lim l (cpy (all ++ lo.extract 0 x1) x3 x2) (lo.extract x1 lo.size) := rfl
theorem drop_one (l : List (Nat × Nat × Nat)) (i : Nat) (h : i < l.length) : l.drop i = l.getD i (0, 0, 0) :: l.drop (i + 1) := by
  rw [List.drop_eq_getElem_cons h, List.getD_eq_getElem?_getD, List.getElem?_eq_getElem h]; rfl
theorem ext_tail (s : ByteArray) (u a b : Nat) (h : u + b ≤ s.size) : (s.extract u s.size).extract a b = s.extract (u + a) (u + b) := by
  rw [ByteArray.extract_extract]
  congr 1
  omega

theorem ext_head (s : ByteArray) (u b : Nat) (h : u + b ≤ s.size) : (s.extract u s.size).extract 0 b = s.extract u (u + b) := ext_tail s u 0 b h
theorem row_kept {w w' : World} {row : Option Nat} {b n : Nat} {T : TypeId} {f : Nat → Value} (h : w.rowIs b T n f) (hg : w.grownBy w' row) (hne : some b ≠ row) : w'.rowIs b T n f := by
  have hl := World.rowIs.lt h
  obtain ⟨c, h1, h2⟩ := h
  exact ⟨c, by rw [hg.block b hl hne]; exact h1, h2⟩
theorem row_below {w w' : World} {b n : Nat} {T : TypeId} {f : Nat → Value} (h : w.rowIs b T n f) (hb : Below w.heap.size w w') : w'.rowIs b T n f := by
  have hl := World.rowIs.lt h
  obtain ⟨c, h1, h2⟩ := h
  exact ⟨c, by rw [hb.block b hl]; exact h1, h2⟩
/-- A buffer and a row of another type lie apart. -/
theorem buf_apart {w : World} {base e b n m : Nat} {v : Value} {xs : List Value} {T : TypeId} {f : Nat → Value} (h : Buf w base e v n xs) (hr : w.rowIs b T m f) (hne : e ≠ T) : some b ≠ v.ownBlock := by
  obtain ⟨_, g, cap, cur, fz, rfl, _, hg, _⟩ := h
  obtain ⟨c, h1, _⟩ := hr
  simp only [Value.ownBlock, ne_eq, Option.some.injEq]
  rintro rfl
  rw [hg] at h1
  simp only [Option.some.injEq, Obj.cells.injEq] at h1
  exact hne h1.2.1

set_option maxRecDepth 100000 in
set_option maxHeartbeats 3200000 in
theorem play_any (c lo : ByteArray) (l : List (Nat × Nat × Nat)) (v : Value) (size base : Nat) (w : World) (hc : c.size ≤ 500) (hlo : lo.size ≤ 20000) (hsz : size ≤ 500) (hl : l.length ≤ 16383) (hg : ∀ s ∈ l, gCp s) (hv : w.ownsRow base 125 3 v l.length (stCells l)) :
    Calls Try.prog 70 #[.string c, .string lo, v, .int .i64 size] w fun e w' => e = .returned (optV (pyEnd c.size size (pyS (c.size + size) l c lo))) ∧ Below w.heap.size w w' := by
  obtain ⟨ao, cap, rfl, hst⟩ := st_form hv
  have HST := hid hst
  have HG := hid hg
  obtain ⟨i0, hi, hz0, hz1, hz2⟩ := info_parts Try.infoU8
  have hconv := run_bytes_of_string (P := Try.prog) w 9 29 5 c Try.underlying9 Try.underlying29 Try.underlying5
  have hbuf := Buf.conv w 5 c (by unfold maxLen; omega)
  generalize grownCap w c.size 0 5 = gcap at *
  clear hst hg hv
  generalize hlim : c.size + size = lim at *
  have HLIM := hid hlim
  obtain ⟨O, hO⟩ : ∃ O, pyEnd c.size size (pyS lim l c lo) = O := ⟨_, rfl⟩
  have HO := hid hO.symm
  rw [hO]
  clear hO
  obtain ⟨w1, hw1⟩ : ∃ w1, w.drew.alloc (.cells (bytesRow c gcap) 5 ((bytesRow c gcap).size, (bytesRow c gcap).size + 1)) = w1 := ⟨_, rfl⟩
  have b1 : Below w.heap.size w w1 := by rw [← hw1]; exact (Below.drew (Below.refl _ _)).alloc (Nat.le_refl _) _
  rw [hw1] at hconv hbuf
  clear hw1
  go_enter Try.func70, Try.ntmps70
  go_wp2_with fail
  go_loopw [10, 12, 13, 14, 15, 16] (fun lv uv iv _ _ _ wr => ∃ (i u : Nat) (A : ByteArray), Buf wr w.heap.size 5 lv A.size (strCells A) ∧ uv = .int .i64 u ∧ iv = .int .i64 i ∧ i ≤ l.length ∧ u ≤ lo.size ∧ c.size ≤ A.size ∧ A.size ≤ lim ∧ O = pyEnd c.size size (pyS lim (l.drop i) A (lo.extract u lo.size)) ∧ Below w.heap.size w wr) (fun _ _ iv _ _ _ _ => l.length - (intOf iv).toNat)
  case atStart => exact ⟨0, 0, c, hbuf, rfl, rfl, Nat.zero_le _, Nat.zero_le _, Nat.le_refl _, by omega, by rw [HO.out, List.drop_zero, ByteArray.extract_zero_size], b1⟩
  case round =>
    obtain ⟨i, u, A, hbuf, rfl, rfl, hil, hul, hA1, hA2, hOO, hbel⟩ := hrel
    obtain ⟨g2, cap2, rfl, hc2a, hc2b, hc2c⟩ := hbuf.cell
    have HOO := hid hOO
    have hwz := hbel.size
    clear hOO hc2c
    have hLs : (lo.extract u lo.size).size = lo.size - u := ext_size _ _ _ (Nat.le_refl _)
    by_cases hlt : i < l.length
    · obtain ⟨g, rfl, hg, e0, e1, e2⟩ := HST.out i hlt
      obtain ⟨g1, g4, g5⟩ := HG.out (l.getD i (0, 0, 0)) (by rw [List.getD_eq_getElem?_getD, List.getElem?_eq_getElem hlt]; exact List.getElem_mem hlt)
      have f0 : wr.cell? ⟨g, i * 3, none⟩ = _ := (hbel.cell (p := ⟨g, i * 3, none⟩) hg).trans e0
      have f1 : wr.cell? ⟨g, i * 3 + 1, none⟩ = _ := (hbel.cell (p := ⟨g, i * 3 + 1, none⟩) hg).trans e1
      have f2 : wr.cell? ⟨g, i * 3 + 2, none⟩ = _ := (hbel.cell (p := ⟨g, i * 3 + 2, none⟩) hg).trans e2
      rw [drop_one l i hlt] at HOO
      clear e0 e1 e2
      generalize l.getD i (0, 0, 0) = x at *
      obtain ⟨x1, x2, x3⟩ := x
      simp only at g1 g4 g5 f0 f1 f2
      rw [pyS_cons] at HOO
      have hq2 := tRow_new wr
      have n0 : decide ((x1 : Int) < 0) = false := by simp
      by_cases k1 : lo.size - u < x1
      · rw [if_pos (by rw [hLs]; exact k1)] at HOO
        have k1' : decide ((lo.size : Int) - (u : Int) < (x1 : Int)) = true := by simp; omega
        go_wp2_with (first
          | (refine wpList_store_rowIs rfl 125 (.tmp 14) (.tmp 32) rfl wr.heap.size rfl 125 3 (tRow 0 0 0) (tRow (x1 : Int) (x2 : Int) (x3 : Int)) hq2 rfl sizeStep (fun i _ => tRow_one _ _ _ i) ?_
             intro w5 q5 b5 o5 s5
             have c0 : w5.cell? ⟨wr.heap.size, 0, none⟩ = some (.int .i64 (x1 : Int)) := World.rowIs.cell q5 (i := 0) (by omega)
             have B5 := hid ((hbel.alloc hbel.size (.cells #[.int .i64 0, .int .i64 0, .int .i64 0] 125)).trans (b5.mono hbel.size))
             have hs5 : wr.heap.size < w5.heap.size := World.rowIs.lt q5
             have hbuf5 := hid (hbuf.below (((Below.refl wr.heap.size wr).alloc (Nat.le_refl _) (.cells #[.int .i64 0, .int .i64 0, .int .i64 0] 125)).trans b5))
             have Q5 := hid q5
             clear q5 b5 o5 s5))
        go_ret2
        exact ⟨ret_v (optV_none HOO.out), B5.out⟩
      · rw [if_neg (by rw [hLs]; exact k1)] at HOO
        have k1' : decide ((lo.size : Int) - (u : Int) < (x1 : Int)) = false := by simp; omega
        have hex : (lo.extract u (u + x1)).size = x1 := by rw [ext_size _ _ _ (by omega)]; omega
        have hXs : (A ++ lo.extract u (u + x1)).size = A.size + x1 := by rw [ByteArray.size_append, hex]
        have hui : (u : Int) + (x1 : Int) ≤ (lo.size : Int) := by omega
        by_cases k2 : x3 < 1
        · rw [if_pos (Or.inl k2)] at HOO
          have k2' : decide ((x3 : Int) < 1) = true := by simp; omega
          go_wp2_with (first
            | (refine wpList_store_rowIs rfl 125 (.tmp 14) (.tmp 32) rfl wr.heap.size rfl 125 3 (tRow 0 0 0) (tRow (x1 : Int) (x2 : Int) (x3 : Int)) hq2 rfl sizeStep (fun i _ => tRow_one _ _ _ i) ?_
               intro w5 q5 b5 o5 s5
               have c0 : w5.cell? ⟨wr.heap.size, 0, none⟩ = some (.int .i64 (x1 : Int)) := World.rowIs.cell q5 (i := 0) (by omega)
               have B5 := hid ((hbel.alloc hbel.size (.cells #[.int .i64 0, .int .i64 0, .int .i64 0] 125)).trans (b5.mono hbel.size))
               have hs5 : wr.heap.size < w5.heap.size := World.rowIs.lt q5
               have hbuf5 := hid (hbuf.below (((Below.refl wr.heap.size wr).alloc (Nat.le_refl _) (.cells #[.int .i64 0, .int .i64 0, .int .i64 0] 125)).trans b5))
               have Q5 := hid q5
               clear q5 b5 o5 s5)
            | (at_builtin
               refine wpList_buf_text _ rfl (.tmp 45) (.tmp 52) 29 9 rfl w.heap.size 5 i0 Try.underlying29 Try.underlying9 hi hz0 hz1 hz2 _ _ _ rfl hbuf5.out (lo.extract u (u + x1)) rfl (by omega) (by omega) ?_
               intro v' w6 hb6 hgrow
               have q6 := row_kept Q5.out hgrow (buf_apart hbuf5.out Q5.out (by decide))
               have B6 := hid (B5.out.grown hgrow (by omega) (fun k hk => (hbuf5.out.lt k hk).1))
               obtain ⟨g3, cap3, rfl, h3a, h3b, h3c⟩ := hb6.cell
               rw [hex] at *
               have d0 : w6.cell? ⟨wr.heap.size, 0, none⟩ = some (.int .i64 (x1 : Int)) := World.rowIs.cell q6 (i := 0) (by omega)
               have d1 : w6.cell? ⟨wr.heap.size, 1, none⟩ = some (.int .i64 (x2 : Int)) := World.rowIs.cell q6 (i := 1) (by omega)
               have d2 : w6.cell? ⟨wr.heap.size, 2, none⟩ = some (.int .i64 (x3 : Int)) := World.rowIs.cell q6 (i := 2) (by omega)
               have HB6 := hid hb6
               have Q6 := hid q6
               clear hb6 q6 hgrow h3c))
          go_ret2
          exact ⟨ret_v (optV_none HOO.out), B6.out⟩
        · have k2' : decide ((x3 : Int) < 1) = false := by simp; omega
          by_cases k3 : A.size + x1 < x3
          · rw [if_pos (Or.inr (Or.inl k3))] at HOO
            have k3' : decide ((A.size : Int) + (x1 : Int) < (x3 : Int)) = true := by simp; omega
            go_wp2_with (first
              | (refine wpList_store_rowIs rfl 125 (.tmp 14) (.tmp 32) rfl wr.heap.size rfl 125 3 (tRow 0 0 0) (tRow (x1 : Int) (x2 : Int) (x3 : Int)) hq2 rfl sizeStep (fun i _ => tRow_one _ _ _ i) ?_
                 intro w5 q5 b5 o5 s5
                 have c0 : w5.cell? ⟨wr.heap.size, 0, none⟩ = some (.int .i64 (x1 : Int)) := World.rowIs.cell q5 (i := 0) (by omega)
                 have B5 := hid ((hbel.alloc hbel.size (.cells #[.int .i64 0, .int .i64 0, .int .i64 0] 125)).trans (b5.mono hbel.size))
                 have hs5 : wr.heap.size < w5.heap.size := World.rowIs.lt q5
                 have hbuf5 := hid (hbuf.below (((Below.refl wr.heap.size wr).alloc (Nat.le_refl _) (.cells #[.int .i64 0, .int .i64 0, .int .i64 0] 125)).trans b5))
                 have Q5 := hid q5
                 clear q5 b5 o5 s5)
              | (at_builtin
                 refine wpList_buf_text _ rfl (.tmp 45) (.tmp 52) 29 9 rfl w.heap.size 5 i0 Try.underlying29 Try.underlying9 hi hz0 hz1 hz2 _ _ _ rfl hbuf5.out (lo.extract u (u + x1)) rfl (by omega) (by omega) ?_
                 intro v' w6 hb6 hgrow
                 have q6 := row_kept Q5.out hgrow (buf_apart hbuf5.out Q5.out (by decide))
                 have B6 := hid (B5.out.grown hgrow (by omega) (fun k hk => (hbuf5.out.lt k hk).1))
                 obtain ⟨g3, cap3, rfl, h3a, h3b, h3c⟩ := hb6.cell
                 rw [hex] at *
                 have d0 : w6.cell? ⟨wr.heap.size, 0, none⟩ = some (.int .i64 (x1 : Int)) := World.rowIs.cell q6 (i := 0) (by omega)
                 have d1 : w6.cell? ⟨wr.heap.size, 1, none⟩ = some (.int .i64 (x2 : Int)) := World.rowIs.cell q6 (i := 1) (by omega)
                 have d2 : w6.cell? ⟨wr.heap.size, 2, none⟩ = some (.int .i64 (x3 : Int)) := World.rowIs.cell q6 (i := 2) (by omega)
                 have HB6 := hid hb6
                 have Q6 := hid q6
                 clear hb6 q6 hgrow h3c))
            go_ret2
            exact ⟨ret_v (optV_none HOO.out), B6.out⟩
          · have k3' : decide ((A.size : Int) + (x1 : Int) < (x3 : Int)) = false := by simp; omega
            by_cases k4 : lim < A.size + x1 + x2
            · rw [if_pos (Or.inr (Or.inr k4))] at HOO
              have k4' : (c.size : Int) + (size : Int) - ((A.size : Int) + (x1 : Int)) < (x2 : Int) := by omega
              go_wp2_with (first
                | (refine wpList_store_rowIs rfl 125 (.tmp 14) (.tmp 32) rfl wr.heap.size rfl 125 3 (tRow 0 0 0) (tRow (x1 : Int) (x2 : Int) (x3 : Int)) hq2 rfl sizeStep (fun i _ => tRow_one _ _ _ i) ?_
                   intro w5 q5 b5 o5 s5
                   have c0 : w5.cell? ⟨wr.heap.size, 0, none⟩ = some (.int .i64 (x1 : Int)) := World.rowIs.cell q5 (i := 0) (by omega)
                   have B5 := hid ((hbel.alloc hbel.size (.cells #[.int .i64 0, .int .i64 0, .int .i64 0] 125)).trans (b5.mono hbel.size))
                   have hs5 : wr.heap.size < w5.heap.size := World.rowIs.lt q5
                   have hbuf5 := hid (hbuf.below (((Below.refl wr.heap.size wr).alloc (Nat.le_refl _) (.cells #[.int .i64 0, .int .i64 0, .int .i64 0] 125)).trans b5))
                   have Q5 := hid q5
                   clear q5 b5 o5 s5)
                | (at_builtin
                   refine wpList_buf_text _ rfl (.tmp 45) (.tmp 52) 29 9 rfl w.heap.size 5 i0 Try.underlying29 Try.underlying9 hi hz0 hz1 hz2 _ _ _ rfl hbuf5.out (lo.extract u (u + x1)) rfl (by omega) (by omega) ?_
                   intro v' w6 hb6 hgrow
                   have q6 := row_kept Q5.out hgrow (buf_apart hbuf5.out Q5.out (by decide))
                   have B6 := hid (B5.out.grown hgrow (by omega) (fun k hk => (hbuf5.out.lt k hk).1))
                   obtain ⟨g3, cap3, rfl, h3a, h3b, h3c⟩ := hb6.cell
                   rw [hex] at *
                   have d0 : w6.cell? ⟨wr.heap.size, 0, none⟩ = some (.int .i64 (x1 : Int)) := World.rowIs.cell q6 (i := 0) (by omega)
                   have d1 : w6.cell? ⟨wr.heap.size, 1, none⟩ = some (.int .i64 (x2 : Int)) := World.rowIs.cell q6 (i := 1) (by omega)
                   have d2 : w6.cell? ⟨wr.heap.size, 2, none⟩ = some (.int .i64 (x3 : Int)) := World.rowIs.cell q6 (i := 2) (by omega)
                   have HB6 := hid hb6
                   have Q6 := hid q6
                   clear hb6 q6 hgrow h3c))
              go_ret2
              exact ⟨ret_v (optV_none HOO.out), B6.out⟩
            · rw [if_neg (by omega)] at HOO
              have k4' : ¬ (c.size : Int) + (size : Int) - ((A.size : Int) + (x1 : Int)) < (x2 : Int) := by omega
              go_wp2_with (first
                | (refine wpList_store_rowIs rfl 125 (.tmp 14) (.tmp 32) rfl wr.heap.size rfl 125 3 (tRow 0 0 0) (tRow (x1 : Int) (x2 : Int) (x3 : Int)) hq2 rfl sizeStep (fun i _ => tRow_one _ _ _ i) ?_
                   intro w5 q5 b5 o5 s5
                   have c0 : w5.cell? ⟨wr.heap.size, 0, none⟩ = some (.int .i64 (x1 : Int)) := World.rowIs.cell q5 (i := 0) (by omega)
                   have B5 := hid ((hbel.alloc hbel.size (.cells #[.int .i64 0, .int .i64 0, .int .i64 0] 125)).trans (b5.mono hbel.size))
                   have hs5 : wr.heap.size < w5.heap.size := World.rowIs.lt q5
                   have hbuf5 := hid (hbuf.below (((Below.refl wr.heap.size wr).alloc (Nat.le_refl _) (.cells #[.int .i64 0, .int .i64 0, .int .i64 0] 125)).trans b5))
                   have Q5 := hid q5
                   clear q5 b5 o5 s5)
                | (at_builtin
                   refine wpList_buf_text _ rfl (.tmp 45) (.tmp 52) 29 9 rfl w.heap.size 5 i0 Try.underlying29 Try.underlying9 hi hz0 hz1 hz2 _ _ _ rfl hbuf5.out (lo.extract u (u + x1)) rfl (by omega) (by omega) ?_
                   intro v' w6 hb6 hgrow
                   have q6 := row_kept Q5.out hgrow (buf_apart hbuf5.out Q5.out (by decide))
                   have B6 := hid (B5.out.grown hgrow (by omega) (fun k hk => (hbuf5.out.lt k hk).1))
                   obtain ⟨g3, cap3, rfl, h3a, h3b, h3c⟩ := hb6.cell
                   rw [hex] at *
                   have d0 : w6.cell? ⟨wr.heap.size, 0, none⟩ = some (.int .i64 (x1 : Int)) := World.rowIs.cell q6 (i := 0) (by omega)
                   have d1 : w6.cell? ⟨wr.heap.size, 1, none⟩ = some (.int .i64 (x2 : Int)) := World.rowIs.cell q6 (i := 1) (by omega)
                   have d2 : w6.cell? ⟨wr.heap.size, 2, none⟩ = some (.int .i64 (x3 : Int)) := World.rowIs.cell q6 (i := 2) (by omega)
                   have HB6 := hid hb6
                   have Q6 := hid q6
                   clear hb6 q6 hgrow h3c))
              have HBX : Hid (Buf w6 w.heap.size 5 (.slice (some ⟨g3, 0, none⟩) (A.size + x1) cap3) (A ++ lo.extract u (u + x1)).size (strCells (A ++ lo.extract u (u + x1)))) := hid (by rw [hXs, strCells_app]; exact HB6.out)
              have HNX := hid (show O = pyEnd c.size size (pyS lim (l.drop (i + 1)) (cpy (A ++ lo.extract u (u + x1)) x3 x2) (lo.extract (u + x1) lo.size)) from by
                rw [HOO.out, ext_head lo u x1 (by omega), hLs, ext_tail lo u x1 (lo.size - u) (by omega), show u + (lo.size - u) = lo.size from by omega])
              have HX := hid (show cpy (A ++ lo.extract u (u + x1)) x3 0 = A ++ lo.extract u (u + x1) from rfl)
              have HCS := hid (fun k => show cpy (A ++ lo.extract u (u + x1)) x3 (k + 1) = cpy (A ++ lo.extract u (u + x1)) x3 k ++ strN [btn (cpy (A ++ lo.extract u (u + x1)) x3 k) ((cpy (A ++ lo.extract u (u + x1)) x3 k).size - x3)] from rfl)
              have HCZ := hid (fun k => cpy_size (A ++ lo.extract u (u + x1)) x3 k)
              rw [hXs] at HCZ
              rw [← HX.out] at HBX
              generalize cpy (A ++ lo.extract u (u + x1)) x3 = CP at *
              obtain ⟨wo, rfl⟩ : ∃ wo, wo = wr := ⟨wr, rfl⟩
              clear HB6 HOO HX hbuf hbel d0 d1 d2 B5 hbuf5 Q5 hq2 f0 f1 f2 c0
              have hCP0 := HCZ.out 0
              go_loopw [10, 15, 16] (fun lv jv _ wi => ∃ k : Nat, k ≤ x2 ∧ jv = .int .i64 k ∧ Buf wi w.heap.size 5 lv (CP k).size (strCells (CP k)) ∧ wi.rowIs wo.heap.size 125 3 (tRow (x1 : Int) (x2 : Int) (x3 : Int)) ∧ Below w.heap.size w wi) (fun _ jv _ _ => x2 - (intOf jv).toNat)
              case atStart => exact ⟨0, Nat.zero_le _, rfl, by have := HBX.out; rw [hCP0] at this ⊢; exact this, Q6.out, B6.out⟩
              case round =>
                obtain ⟨k, hk, rfl, hbk, hqk, hbel⟩ := hrel
                obtain ⟨g4, cap4, rfl, h4a, h4b, h4c⟩ := hbk.cell
                have hY := HCZ.out k
                have hwz4 := hbel.size
                have HSTP := hid (HCS.out k)
                have HZ1 := hid (HCZ.out (k + 1))
                have d1 : wr.cell? ⟨wo.heap.size, 1, none⟩ = some (.int .i64 (x2 : Int)) := World.rowIs.cell hqk (i := 1) (by omega)
                have d2 : wr.cell? ⟨wo.heap.size, 2, none⟩ = some (.int .i64 (x3 : Int)) := World.rowIs.cell hqk (i := 2) (by omega)
                by_cases hkx : k < x2
                · have hkd : decide ((k : Int) < (x2 : Int)) = true := by simp; omega
                  obtain ⟨jx, hjx⟩ : ∃ jx : Nat, (CP k).size - x3 = jx := ⟨_, rfl⟩
                  rw [hjx] at HSTP
                  have hji : ((CP k).size : Int) - (x3 : Int) = (jx : Int) := by omega
                  have hjY : jx < (CP k).size := by omega
                  have bj := btn_lt (CP k) jx
                  have cj : wr.cell? ⟨g4, jx, none⟩ = some (.int .u8 (btn (CP k) jx : Int)) := by rw [h4c jx hjY]; exact strCells_get (CP k) jx hjY
                  have cj2 : wr.cell? ⟨g4, A.size + x1 + k - x3, none⟩ = some (.int .u8 (btn (CP k) jx : Int)) := by rw [show A.size + x1 + k - x3 = jx from by omega]; exact cj
                  have HBK := hid hbk
                  have HQK := hid hqk
                  clear hbk hqk h4c hjx
                  generalize CP k = Y at *
                  go_wp2_with (at_builtin; refine wpList_buf_byte _ rfl (.tmp 89) (.tmp 91) 29 rfl w.heap.size 5 i0 Try.underlying29 hi hz0 hz1 hz2 _ _ _ rfl (HBK.out.below ((Below.refl _ _).alloc (Nat.le_refl _) _)) ⟨_, 0, none⟩ (btn Y jx : Int) rfl (by simp [Addr.add]) (by omega) (by simp; omega) ?_; intro v' w8 hb8 hgrow)
                  go_roundw
                  case rel =>
                    have hrow : w8.rowIs wo.heap.size 125 3 (tRow (x1 : Int) (x2 : Int) (x3 : Int)) := row_kept (row_below HQK.out ((Below.refl _ _).alloc (Nat.le_refl _) _)) hgrow (buf_apart HBK.out HQK.out (by decide))
                    have hbf : Buf w8 w.heap.size 5 v' (CP (k + 1)).size (strCells (CP (k + 1))) := by
                      rw [HZ1.out, HSTP.out, strCells_app, strCells_one _ bj, show A.size + x1 + (k + 1) = Y.size + 1 from by omega]; exact hb8
                    have bel8 := (hbel.alloc hwz4 _).grown hgrow (by simp; omega) (fun k hk => (HBK.out.lt k hk).1)
                    first
                      | exact ⟨k + 1, by omega, by go_num, hbf, hrow, bel8⟩
                      | ((repeat apply Exists.intro); exact ⟨⟨k + 1, by omega, by go_num, hbf, hrow, bel8⟩, rfl⟩)
                  case measure => simp [intOf]; omega
                · have HK := hid (show k = x2 from by omega)
                  have hkd : decide ((k : Int) < (x2 : Int)) = false := by simp; omega
                  rw [← HK.out] at HNX
                  have HBK := hid hbk
                  clear hbk h4c
                  go_wp2
                  go_roundw
                  case rel => exact ⟨i + 1, u + x1, CP k, HBK.out, by go_num, by go_num, by omega, by omega, by omega, by omega, HNX.out, hbel⟩
                  case measure => simp [intOf]; omega
    · have HI := hid (show i = l.length from by omega)
      rw [HI.out, List.drop_length] at HOO
      have HE := hid (show O = if (A ++ lo.extract u lo.size).size = c.size + size then some ((A ++ lo.extract u lo.size).extract c.size (A ++ lo.extract u lo.size).size) else none from HOO.out)
      have hAL : (A ++ lo.extract u lo.size).size = A.size + (lo.size - u) := by rw [ByteArray.size_append, hLs]
      have hlt' : ¬ i < l.length := hlt
      have m0 : decide ((size : Int) < 0) = false := by simp
      have hui : (u : Int) ≤ (lo.size : Int) := by omega
      rw [hAL] at HE
      clear HOO
      by_cases k1 : A.size + (lo.size - u) = c.size + size
      · rw [if_pos k1] at HE
        have hcA : (c.size : Int) ≤ (A.size : Int) + ((lo.size - u : Nat) : Int) := by omega
        have HEAL := hid hAL
        have hnl : A.size + (lo.size - u) = lim := by omega
        have hdl : ((lim : Int) != (c.size : Int) + (size : Int)) = false := by simp; omega
        rw [hnl] at HE
        by_cases hz : size = 0
        · have HZ := hid (show (A ++ lo.extract u lo.size).extract c.size lim = ⟨#[]⟩ from text_ext (by rw [ext_size _ _ _ (by rw [HEAL.out]; omega)]; show lim - c.size = 0; omega) (fun i hi => by rw [ext_size _ _ _ (by rw [HEAL.out]; omega)] at hi; omega))
          clear k1
          go_wp2_with (at_builtin; refine wpList_buf_text _ rfl (.tmp 93) (.tmp 96) 29 9 rfl w.heap.size 5 i0 Try.underlying29 Try.underlying9 hi hz0 hz1 hz2 _ _ _ rfl hbuf (lo.extract u lo.size) rfl (by omega) (by omega) ?_; intro v' w6 hb6 hgrow; have B6 := hid (hbel.grown hgrow (by omega) (fun k hk => (hbuf.lt k hk).1)); rw [hLs, hnl, ← strCells_app] at hb6; obtain ⟨g3, cap3, rfl, h3a, h3b, h3c⟩ := hb6.cell; have hcv := conv_tail hb6 (HEAL.out.trans hnl) (show c.size ≤ lim by omega) (cap3 - c.size); have hcv0 := conv_tail0 (w := w6) (g := g3) (n := lim - c.size) (by omega) 0; rw [HEAL.out.trans hnl, HZ.out] at hcv)
          all_goals go_ret2
          all_goals exact ⟨ret_v (optV_some (by rw [HE.out, HZ.out])), B6.out⟩
        · clear k1
          go_wp2_with (at_builtin; refine wpList_buf_text _ rfl (.tmp 93) (.tmp 96) 29 9 rfl w.heap.size 5 i0 Try.underlying29 Try.underlying9 hi hz0 hz1 hz2 _ _ _ rfl hbuf (lo.extract u lo.size) rfl (by omega) (by omega) ?_; intro v' w6 hb6 hgrow; have B6 := hid (hbel.grown hgrow (by omega) (fun k hk => (hbuf.lt k hk).1)); rw [hLs, hnl, ← strCells_app] at hb6; obtain ⟨g3, cap3, rfl, h3a, h3b, h3c⟩ := hb6.cell; have hcv := conv_tail hb6 (HEAL.out.trans hnl) (show c.size ≤ lim by omega) (cap3 - c.size); rw [HEAL.out.trans hnl] at hcv; have hne : ¬ cap3 = c.size := by omega)
          go_ret2
          exact ⟨ret_v (optV_some HE.out), B6.out⟩
      · rw [if_neg k1] at HE
        have hdl : ((A.size : Int) + ((lo.size - u : Nat) : Int) != (c.size : Int) + (size : Int)) = true := by simp; omega
        go_wp2_with (at_builtin; refine wpList_buf_text _ rfl (.tmp 93) (.tmp 96) 29 9 rfl w.heap.size 5 i0 Try.underlying29 Try.underlying9 hi hz0 hz1 hz2 _ _ _ rfl hbuf (lo.extract u lo.size) rfl (by omega) (by omega) ?_; intro v' w6 hb6 hgrow; have B6 := hid (hbel.grown hgrow (by omega) (fun k hk => (hbuf.lt k hk).1)); rw [hLs] at hb6; obtain ⟨g3, cap3, rfl, h3a, h3b, h3c⟩ := hb6.cell)
        go_ret2
        exact ⟨ret_v (optV_none HE.out), B6.out⟩
end Go.Proofs.Ytnconbpneimjiaa

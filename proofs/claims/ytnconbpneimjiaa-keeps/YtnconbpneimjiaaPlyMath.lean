/-
  P12, plain: copies read first, then played.
-/
import Derived.Test.YtnconbpneimjiaaFrmAux
import Derived.Test.YtnconbpneimjiaaBodMath
namespace Go.Proofs.Ytnconbpneimjiaa
open Go.PlainAid

/-! ### Reading -/
/-- The copy at a place, and the place behind it. -/
def rsAt (b : ByteArray) (a : Int) : (Nat × Nat × Nat) × Int := (((ctAt b a).1, (ctAt b (ctAt b a).2).1 + 4, (ctAt b (ctAt b (ctAt b a).2).2).1), (ctAt b (ctAt b (ctAt b a).2).2).2)
/-- So many copies from a place on, and the place behind them. -/
def rsL (b : ByteArray) : Nat → Int → Option (List (Nat × Nat × Nat) × Int)
  | 0, a => some ([], a)
  | i + 1, a => if (rsAt b a).2 < 0 then none else match rsL b i (rsAt b a).2 with
    | none => none
    | some (l, e) => some ((rsAt b a).1 :: l, e)
/-- Copies played: what there is, the loose bytes that are left. -/
def pyS (lim : Nat) : List (Nat × Nat × Nat) → ByteArray → ByteArray → Option (ByteArray × ByteArray)
  | [], all, lo => some (all, lo)
  | s :: l, all, lo =>
    if lo.size < s.1 then none else if s.2.2 < 1 ∨ all.size + s.1 < s.2.2 ∨ lim < all.size + s.1 + s.2.1 then none
    else pyS lim l (cpy (all ++ lo.extract 0 s.1) s.2.2 s.2.1) (lo.extract s.1 lo.size)
def pyEnd (n size : Nat) (o : Option (ByteArray × ByteArray)) : Option ByteArray :=
  match o with
  | none => none
  | some (all, lo) => if (all ++ lo).size = n + size then some ((all ++ lo).extract n (all ++ lo).size) else none
theorem plS_long (c b : ByteArray) (size : Nat) : ∀ i a all lo, c.size + size < all.size → plEnd c b size (plS b (c.size + size) i a all lo) = none := by
  intro i
  induction i with
  | zero =>
    intro a all lo h
    rw [plS, plEnd_some, if_neg]
    rw [ByteArray.size_append]; omega
  | succ i ih =>
    intro a all lo h
    rw [plS]
    split
    · rfl
    · split
      · rfl
      · refine ih _ _ _ ?_
        rw [cpy_size, ByteArray.size_append]; omega
/-- Played as it is read: as read first, then played. -/
theorem plS_py (c b : ByteArray) (size : Nat) : ∀ i a all lo, plEnd c b size (plS b (c.size + size) i a all lo) = (match rsL b i a with
    | none => none
    | some (l, e) => if e = (b.size : Int) then pyEnd c.size size (pyS (c.size + size) l all lo) else none) := by
  intro i
  induction i with
  | zero =>
    intro a all lo
    rw [plS, plEnd_some, rsL]
    simp only [pyS, pyEnd]
    by_cases h : a = (b.size : Int)
    · rw [if_pos h]
      by_cases h2 : (all ++ lo).size = c.size + size
      · rw [if_pos ⟨h, h2⟩, if_pos h2]
      · rw [if_neg (fun q => h2 q.2), if_neg h2]
    · rw [if_neg h, if_neg (fun q => h q.1)]
  | succ i ih =>
    intro a all lo
    rw [plS, rsL]
    have e1 : (rsAt b a).2 = (ctAt b (ctAt b (ctAt b a).2).2).2 := rfl
    have e2 : (rsAt b a).1 = ((ctAt b a).1, (ctAt b (ctAt b a).2).1 + 4, (ctAt b (ctAt b (ctAt b a).2).2).1) := rfl
    rw [e1, e2]
    generalize (ctAt b (ctAt b (ctAt b a).2).2).2 = p3
    generalize (ctAt b (ctAt b (ctAt b a).2).2).1 = x3
    generalize (ctAt b (ctAt b a).2).1 = x2
    generalize (ctAt b a).1 = x1
    by_cases h : p3 < 0
    · rw [if_pos h, if_pos (Or.inl h)]; rfl
    · rw [if_neg h]
      by_cases h1 : lo.size < x1
      · rw [if_pos (Or.inr h1), plEnd_none]
        cases rsL b i p3 with
        | none => rfl
        | some q =>
          obtain ⟨l, e⟩ := q
          simp only [pyS]
          rw [if_pos h1]
          split <;> rfl
      · rw [if_neg (by omega)]
        by_cases h2 : x3 < 1 ∨ all.size + x1 < x3 ∨ c.size + size < all.size + x1 + x2
        · rw [if_pos h2, plEnd_none]
          cases rsL b i p3 with
          | none => rfl
          | some q =>
            obtain ⟨l, e⟩ := q
            simp only [pyS]
            rw [if_neg h1, if_pos (show x3 < 1 ∨ all.size + x1 < x3 ∨ c.size + size < all.size + x1 + (x2 + 4) from by omega)]
            split <;> rfl
        · rw [if_neg h2]
          by_cases h3 : c.size + size < all.size + x1 + (x2 + 4)
          · rw [plS_long]
            · cases rsL b i p3 with
              | none => rfl
              | some q =>
                obtain ⟨l, e⟩ := q
                simp only [pyS]
                rw [if_neg h1, if_pos (show x3 < 1 ∨ all.size + x1 < x3 ∨ c.size + size < all.size + x1 + (x2 + 4) from by omega)]
                split <;> rfl
            · rw [cpy_size, ByteArray.size_append, ext_size _ _ _ (by omega)]; omega
          · rw [ih]
            cases rsL b i p3 with
            | none => rfl
            | some q =>
              obtain ⟨l, e⟩ := q
              simp only [pyS]
              rw [if_neg h1, if_neg (show ¬ (x3 < 1 ∨ all.size + x1 < x3 ∨ c.size + size < all.size + x1 + (x2 + 4)) from by omega)]
theorem pyS_long (n size : Nat) : ∀ l all lo, n + size < all.size + lo.size → pyEnd n size (pyS (n + size) l all lo) = none := by
  intro l
  induction l with
  | nil =>
    intro all lo h
    simp only [pyS, pyEnd]
    rw [if_neg]
    rw [ByteArray.size_append]; omega
  | cons s l ih =>
    intro all lo h
    rw [pyS]
    split
    · rfl
    · split
      · rfl
      · refine ih _ _ ?_
        rw [cpy_size, ByteArray.size_append, ext_size _ _ _ (by omega), ext_size _ _ _ (Nat.le_refl _)]; omega

/-- The loose bytes of a body, as the program reads them: a stream of any number of bytes. -/
def rlAns (t b : ByteArray) : Option (ByteArray × Int) :=
  if (ctAt b 0).2 < 0 ∨ (b.size : Int) ≤ (ctAt b 0).2 then none
  else if btn b (ctAt b 0).2.toNat = 0 then
    if (b.size : Int) - ((ctAt b 0).2 + 1) < ((ctAt b 0).1 : Int) then none else some (b.extract ((ctAt b 0).2.toNat + 1) ((ctAt b 0).2.toNat + 1 + (ctAt b 0).1), (ctAt b 0).2 + 1 + (ctAt b 0).1)
  else if btn b (ctAt b 0).2.toNat ≠ 1 then none
  else if (ctAt b ((ctAt b 0).2 + 1)).2 < 0 ∨ (b.size : Int) - (ctAt b ((ctAt b 0).2 + 1)).2 < ((ctAt b ((ctAt b 0).2 + 1)).1 : Int) then none
  else if (rd t (b.extract (ctAt b ((ctAt b 0).2 + 1)).2.toNat ((ctAt b ((ctAt b 0).2 + 1)).2.toNat + (ctAt b ((ctAt b 0).2 + 1)).1)) (ctAt b 0).1).2 = true then
    some ((rd t (b.extract (ctAt b ((ctAt b 0).2 + 1)).2.toNat ((ctAt b ((ctAt b 0).2 + 1)).2.toNat + (ctAt b ((ctAt b 0).2 + 1)).1)) (ctAt b 0).1).1, (ctAt b ((ctAt b 0).2 + 1)).2 + (ctAt b ((ctAt b 0).2 + 1)).1)
  else none
/-- The document's loose bytes and the program's: the same, or a stream of too many bytes. -/
theorem rlAns_is {t b : ByteArray} (ht : isTB t = true) (hb : b.size ≤ 1000) : (rlAns t b = none ∧ (lsAns t b).2 = -1) ∨ (rlAns t b = some (lsAns t b) ∧ 0 ≤ (lsAns t b).2) ∨ (∃ lo a, rlAns t b = some (lo, a) ∧ 500 < lo.size ∧ (lsAns t b).2 = -1) := by
  have h0 := ctAt_bd b 0
  unfold rlAns lsAns
  generalize ctAt b 0 = q at *
  obtain ⟨n, a⟩ := q
  simp only at h0 ⊢
  by_cases c0 : a < 0
  · rw [if_pos (Or.inl c0), if_pos (Or.inl c0)]; exact .inl ⟨rfl, rfl⟩
  by_cases c1 : (b.size : Int) ≤ a
  · rw [if_pos (Or.inr c1), if_pos (Or.inr (Or.inl c1))]; exact .inl ⟨rfl, rfl⟩
  simp only [if_neg (show ¬ (a < 0 ∨ (b.size : Int) ≤ a) from by omega)]
  by_cases c2 : btn b a.toNat = 0
  · simp only [if_neg (show ¬ (a < 0 ∨ (b.size : Int) ≤ a ∨ 1 < btn b a.toNat) from by omega), if_pos c2]
    by_cases c3 : (b.size : Int) - (a + 1) < (n : Int)
    · simp only [if_pos c3]; exact .inl (by simp)
    · simp only [if_neg c3]; exact .inr (.inl ⟨by simp, by omega⟩)
  · simp only [if_neg c2]
    by_cases c3 : btn b a.toNat = 1
    · simp only [if_neg (show ¬ (a < 0 ∨ (b.size : Int) ≤ a ∨ 1 < btn b a.toNat) from by omega), if_neg (show ¬ btn b a.toNat ≠ 1 from by omega)]
      have h1 := ctAt_bd b (a + 1)
      generalize ctAt b (a + 1) = q1 at *
      obtain ⟨m, a1⟩ := q1
      simp only at h1 ⊢
      by_cases c4 : a1 < 0 ∨ (b.size : Int) - a1 < (m : Int)
      · simp only [if_pos c4]; exact .inl (by simp)
      · simp only [if_neg c4]
        have hsz : (b.extract a1.toNat (a1.toNat + m)).size ≤ 1000 := by rw [ByteArray.size_extract]; omega
        generalize b.extract a1.toNat (a1.toNat + m) = s at *
        have hU : usAns t s (n : Int) = if (n : Int) < 0 ∨ 500 < (n : Int) then (⟨#[]⟩, 2) else if rdOk t s n = false then (⟨#[]⟩, 5) else (strN (outT t s n), 0) := by
          unfold usAns
          rw [if_neg (by omega), Int.toNat_natCast]
          split
          · rfl
          · rw [if_neg (by rw [ht]; simp)]
        rw [hU]
        clear hU
        cases hr : rdOk t s n
        · rw [rd_no hr]
          refine .inl ⟨by simp, ?_⟩
          by_cases c5 : (n : Int) < 0 ∨ 500 < (n : Int)
          · simp only [if_pos c5]; simp
          · simp only [if_neg c5]; simp
        · rw [rd_yes hr]
          by_cases c5 : (n : Int) < 0 ∨ 500 < (n : Int)
          · simp only [if_pos c5]
            exact .inr (.inr ⟨strN (outT t s n), a1 + (m : Int), by simp, by rw [strN_size, outT_len]; omega, by simp⟩)
          · simp only [if_neg c5]
            refine .inr (.inl ⟨by simp, ?_⟩)
            simp
            omega
    · simp only [if_pos (show btn b a.toNat ≠ 1 from c3), if_pos (show a < 0 ∨ (b.size : Int) ≤ a ∨ 1 < btn b a.toNat from by omega)]; exact .inl (by simp)
/-- The record of a packed body, as the program reads it. -/
def rbAns (t c b : ByteArray) (size : Nat) : Option ByteArray :=
  match rlAns t b with
  | none => none
  | some (lo, a) => if (ctAt b a).2 < 0 then none else match rsL b (ctAt b a).1 (ctAt b a).2 with
    | none => none
    | some (l, e) => if e = (b.size : Int) then pyEnd c.size size (pyS (c.size + size) l c lo) else none
theorem ctAt_none {b : ByteArray} {a : Int} (h : (ctAt b a).2 < 0) : ctAt b a = (0, -1) := by
  unfold ctAt at h ⊢
  split
  · rfl
  · rename_i h1
    rw [if_neg h1] at h
    split
    · rename_i h2
      rw [if_pos h2] at h
      simp only at h; omega
    · rename_i h2
      rw [if_neg h2] at h
      split
      · rfl
      · rename_i h3
        rw [if_neg h3] at h
        simp only at h; omega
theorem rbAns_is {t c b : ByteArray} {size : Nat} (ht : isTB t = true) (hb : b.size ≤ 1000) (hs : size ≤ 500) : plAns t c b size = rbAns t c b size := by
  have hneg : ∀ a : Int, a < 0 → plEnd c b size (plS b (c.size + size) (ctAt b a).1 (ctAt b a).2 c (lsAns t b).1) = none := by
    intro a ha
    have : ctAt b a = (0, -1) := by unfold ctAt; rw [if_pos (Or.inl ha)]
    rw [this]
    show plEnd c b size (some (-1, c, (lsAns t b).1)) = none
    rw [plEnd_some, if_neg]
    omega
  rw [plAns_is]
  unfold rbAns
  rcases rlAns_is ht hb with ⟨h1, h2⟩ | ⟨h1, h2⟩ | ⟨lo, a, h1, h2, h3⟩
  · rw [h1, h2]; exact hneg (-1) (by omega)
  · rw [h1]
    simp only
    by_cases h3 : (ctAt b (lsAns t b).2).2 < 0
    · rw [if_pos h3, ctAt_none h3]
      show plEnd c b size (some (-1, c, (lsAns t b).1)) = none
      rw [plEnd_some, if_neg]
      omega
    · rw [if_neg h3, plS_py]
  · rw [h1, h3, hneg (-1) (by omega)]
    simp only
    split
    · rfl
    · split
      · rfl
      · split
        · rw [pyS_long c.size size _ _ _ (by omega)]
        · rfl
/-- The copies of a body from a place on, as the program reads them. -/
def stAns (b : ByteArray) (a : Int) : Option (List (Nat × Nat × Nat)) :=
  if (ctAt b a).2 < 0 then none else match rsL b (ctAt b a).1 (ctAt b a).2 with
  | none => none
  | some (l, e) => if e = (b.size : Int) then some l else none
theorem rbAns_st (t c b : ByteArray) (size : Nat) : rbAns t c b size = match rlAns t b with
    | none => none
    | some (lo, a) => match stAns b a with
      | none => none
      | some l => pyEnd c.size size (pyS (c.size + size) l c lo) := by
  unfold rbAns stAns
  cases rlAns t b with
  | none => rfl
  | some q =>
    obtain ⟨lo, a⟩ := q
    simp only
    split
    · rfl
    · cases rsL b (ctAt b a).1 (ctAt b a).2 with
      | none => rfl
      | some q =>
        obtain ⟨l, e⟩ := q
        simp only
        split <;> rfl
def gCp (s : Nat × Nat × Nat) : Prop := s.1 ≤ 16383 ∧ s.2.1 ≤ 16387 ∧ s.2.2 ≤ 16383
theorem rsAt_bd (b : ByteArray) (a : Int) : gCp (rsAt b a).1 ∧ ((rsAt b a).2 < 0 ∨ (a + 1 ≤ (rsAt b a).2 ∧ (rsAt b a).2 ≤ (b.size : Int))) := by
  have h1 := ctAt_bd b a
  have h2 := ctAt_bd b (ctAt b a).2
  have h3 := ctAt_bd b (ctAt b (ctAt b a).2).2
  unfold rsAt gCp
  simp only
  omega
theorem rsL_bd (b : ByteArray) : ∀ n a l e, rsL b n a = some (l, e) → l.length = n ∧ ∀ s ∈ l, gCp s := by
  intro n
  induction n with
  | zero =>
    intro a l e h
    simp only [rsL, Option.some.injEq, Prod.mk.injEq] at h
    obtain ⟨rfl, rfl⟩ := h
    simp
  | succ n ih =>
    intro a l e h
    rw [rsL] at h
    split at h
    · simp at h
    · cases hr : rsL b n (rsAt b a).2 with
      | none => rw [hr] at h; simp at h
      | some q =>
        obtain ⟨l', e'⟩ := q
        rw [hr] at h
        simp only [Option.some.injEq, Prod.mk.injEq] at h
        obtain ⟨rfl, rfl⟩ := h
        obtain ⟨i1, i2⟩ := ih _ _ _ hr
        refine ⟨by simp [i1], fun s hs => ?_⟩
        rw [List.mem_cons] at hs
        rcases hs with rfl | hs
        · exact (rsAt_bd b a).1
        · exact i2 s hs
theorem stAns_bd {b : ByteArray} {a : Int} {l : List (Nat × Nat × Nat)} (h : stAns b a = some l) : l.length ≤ 16383 ∧ ∀ s ∈ l, gCp s := by
  have hc := ctAt_bd b a
  unfold stAns at h
  split at h
  · simp at h
  · cases hr : rsL b (ctAt b a).1 (ctAt b a).2 with
    | none => rw [hr] at h; simp at h
    | some q =>
      obtain ⟨l', e'⟩ := q
      rw [hr] at h
      simp only at h
      split at h
      · simp only [Option.some.injEq] at h
        subst h
        obtain ⟨i1, i2⟩ := rsL_bd b _ _ _ _ hr
        exact ⟨by omega, i2⟩
      · simp at h
/-- Copies read so far, and those that are read on. -/
def rsJ (st : List (Nat × Nat × Nat)) (o : Option (List (Nat × Nat × Nat) × Int)) : Option (List (Nat × Nat × Nat) × Int) :=
  match o with
  | none => none
  | some (l, e) => some (st ++ l, e)
theorem rsJ_nil (o : Option (List (Nat × Nat × Nat) × Int)) : rsJ [] o = o := by cases o <;> rfl
theorem rsJ_no (b : ByteArray) (st : List (Nat × Nat × Nat)) (m : Nat) (a : Int) (h : (rsAt b a).2 < 0) : rsJ st (rsL b (m + 1) a) = none := by rw [rsL, if_pos h]; rfl
theorem rsJ_next (b : ByteArray) (st : List (Nat × Nat × Nat)) (m : Nat) (a : Int) (h : ¬ (rsAt b a).2 < 0) : rsJ st (rsL b (m + 1) a) = rsJ (st ++ [(rsAt b a).1]) (rsL b m (rsAt b a).2) := by
  rw [rsL, if_neg h]
  cases rsL b m (rsAt b a).2 with
  | none => rfl
  | some q => obtain ⟨l, e⟩ := q; simp [rsJ]
theorem rsJ_end (b : ByteArray) (st : List (Nat × Nat × Nat)) (a : Int) : rsJ st (rsL b 0 a) = some (st, a) := by simp [rsL, rsJ]
end Go.Proofs.Ytnconbpneimjiaa

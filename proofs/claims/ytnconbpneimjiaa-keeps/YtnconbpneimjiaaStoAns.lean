/-
  P13 to P15, plain: what a store answers by what was done with it; what a call may change.
-/
import Derived.Test.YtnconbpneimjiaaFrmBack
import Derived.Test.YtnconbpneimjiaaFileParse
import Derived.Below
namespace Go.Proofs.Ytnconbpneimjiaa
open Go.RowKit Go.PlainAid

/-- What Frame answers. -/
def frAns (o : Option ByteArray) : ByteArray × Int :=
  match o with
  | none => (⟨#[]⟩, 12)
  | some x => (x, 0)
/-- What Remove answers, what is done then. -/
def rmAns (l : List Ev) (id : Int) : Int × List Ev := if fileOf l id = ⟨#[]⟩ then (8, l) else (0, l ++ [⟨2, id, ⟨#[]⟩, ⟨#[]⟩⟩])
/-- What Register answers, what is done then. -/
def rgAns (l : List Ev) (room : Int) (f : ByteArray) : Int × Int × List Ev :=
  if pOkB f = false then (0, 6, l)
  else if fileOf l (num f 3 2 : Int) = ⟨#[]⟩ ∧ room ≤ (idsOf l : Int) then (0, 11, l)
  else ((num f 3 2 : Int), 0, l ++ [⟨1, (num f 3 2 : Int), ⟨#[]⟩, f⟩])
/-- What Plant answers, what is done then. -/
def plntAns (l : List Ev) (ky fr : ByteArray) : Int × List Ev := if ky.size < 1 ∨ 8 < ky.size then (12, l) else if 1000 < fr.size then (1, l) else (0, l ++ [⟨3, 0, ky, fr⟩])
/-- What Put answers, what is done then. -/
def putAns (l : List Ev) (ky r : ByteArray) (id : Int) : Int × Int × List Ev :=
  if ky.size < 1 ∨ 8 < ky.size then (0, 12, l) else if 500 < r.size then (0, 1, l) else if fileOf l id = ⟨#[]⟩ then (0, 8, l)
  else (((enAns (fileOf l id) r).1.size : Int), (enAns (fileOf l id) r).2, l ++ [⟨3, 0, ky, (enAns (fileOf l id) r).1⟩])
/-- What Get answers. -/
def getAns (l : List Ev) (ky : ByteArray) : ByteArray × Int :=
  match frmOf l ky with
  | none => (⟨#[]⟩, 12)
  | some fr => if hdB fr = false then (⟨#[]⟩, 7) else if fileOf l (num fr 2 2 : Int) = ⟨#[]⟩ then (⟨#[]⟩, 8) else dcAns (fileOf l (num fr 2 2 : Int)) fr

/-- Of what was there a call may change the blocks F alone. -/
structure ChgF (F : Nat → Prop) (w w' : World) : Prop where
  os : w'.os = w.os
  tape : w'.tape = w.tape
  output : w'.output = w.output
  size : w.heap.size ≤ w'.heap.size
  block : ∀ k, k < w.heap.size → ¬ F k → w'.heap[k]? = w.heap[k]?
/-- What is owned behind a call: what was owned, or what is new. -/
def GrowF (w : World) (F F' : Nat → Prop) : Prop := ∀ k, F' k → F k ∨ w.heap.size ≤ k
theorem GrowF.refl (w : World) (F : Nat → Prop) : GrowF w F F := fun _ h => .inl h
theorem ChgF.ofBelow {F : Nat → Prop} {w w' : World} (h : Below w.heap.size w w') : ChgF F w w' := ⟨h.os, h.tape, h.output, h.size, fun k hk _ => h.block k hk⟩
theorem ChgF.refl (F : Nat → Prop) (w : World) : ChgF F w w := ⟨rfl, rfl, rfl, Nat.le_refl _, fun _ _ _ => rfl⟩
theorem ChgF.mono {F F' : Nat → Prop} {w w' : World} (h : ChgF F w w') (hF : ∀ k, F k → F' k) : ChgF F' w w' := ⟨h.os, h.tape, h.output, h.size, fun k hk hn => h.block k hk (fun q => hn (hF k q))⟩
theorem ChgF.trans {F F' : Nat → Prop} {w w1 w2 : World} (h : ChgF F w w1) (k : ChgF F' w1 w2) (hF : ∀ k, k < w.heap.size → F' k → F k) : ChgF F w w2 :=
  ⟨k.os.trans h.os, k.tape.trans h.tape, k.output.trans h.output, Nat.le_trans h.size k.size, fun i h1 h2 => (k.block i (Nat.lt_of_lt_of_le h1 h.size) (fun q => h2 (hF i h1 q))).trans (h.block i h1 h2)⟩
theorem ChgF.below {F : Nat → Prop} {w w' : World} {B : Nat} (h : ChgF F w w') (hB : B ≤ w.heap.size) (hF : ∀ k, F k → B ≤ k) : Below B w w' :=
  ⟨h.os, h.tape, h.output, h.size, fun k hk => h.block k (by omega) (fun q => by have := hF k q; omega)⟩
/-- What may be done. -/
def EvOk (e : Ev) : Prop := e.tx.size ≤ 1000 ∧ ((e.kd = 1 ∧ pOk e.tx ∧ e.id = (num e.tx 3 2 : Int)) ∨ (e.kd = 2 ∧ e.tx = ⟨#[]⟩) ∨ (e.kd = 3 ∧ 1 ≤ e.ky.size ∧ e.ky.size ≤ 8))
/-- All that was done may be. -/
def LogOk (l : List Ev) : Prop := ∀ e ∈ l, EvOk e
theorem LogOk.nil : LogOk [] := fun e h => by cases h
theorem LogOk.snoc {l : List Ev} {e : Ev} (h : LogOk l) (he : EvOk e) : LogOk (l ++ [e]) := by
  intro x hx
  rw [List.mem_append, List.mem_singleton] at hx
  rcases hx with hx | hx
  · exact h x hx
  · rw [hx]; exact he
theorem LogOk.of {l : List Ev} (h : LogOk l) (k : Nat) (hk : k < l.length) : EvOk (evAt l k) := by
  unfold evAt
  rw [List.getD_eq_getElem?_getD, List.getElem?_eq_getElem hk]
  exact h _ (List.getElem_mem hk)
theorem LogOk.at {l : List Ev} (h : LogOk l) (k : Nat) : (evAt l k).tx.size ≤ 1000 := by
  rcases Nat.lt_or_ge k l.length with c | c
  · exact (h.of k c).1
  · unfold evAt
    rw [List.getD_eq_getElem?_getD, List.getElem?_eq_none c]
    show 0 ≤ 1000; omega
theorem LogOk.file {l : List Ev} (h : LogOk l) (id : Int) : (fileOf l id).size ≤ 1000 := by
  unfold fileOf
  generalize l.length = n
  induction n with
  | zero => show 0 ≤ 1000; omega
  | succ n ih =>
    rw [fileB]
    split
    · exact h.at n
    · exact ih
theorem LogOk.frm {l : List Ev} (h : LogOk l) (ky fr : ByteArray) (hq : frmOf l ky = some fr) : fr.size ≤ 1000 := by
  unfold frmOf at hq
  generalize l.length = n at hq
  induction n with
  | zero => simp [frmB] at hq
  | succ n ih =>
    rw [frmB] at hq
    split at hq
    · simp only [Option.some.injEq] at hq
      rw [← hq]; exact h.at n
    · exact ih hq
/-- A file that is bound is one, of its id. -/
theorem LogOk.bound {l : List Ev} (h : LogOk l) (id : Int) (hq : fileOf l id ≠ ⟨#[]⟩) : pOk (fileOf l id) ∧ id = (num (fileOf l id) 3 2 : Int) := by
  have key : ∀ n, n ≤ l.length → fileB l id n ≠ ⟨#[]⟩ → pOk (fileB l id n) ∧ id = (num (fileB l id n) 3 2 : Int) := by
    intro n
    induction n with
    | zero => intro _ h; exact absurd rfl h
    | succ n ih =>
      intro hn hne
      rw [fileB] at hne ⊢
      split
      · rename_i c
        rw [if_pos c] at hne
        rcases (h.of n (by omega)).2 with ⟨_, h2, h3⟩ | ⟨_, h2⟩ | ⟨h2, _⟩
        · exact ⟨h2, by rw [← c.2]; exact h3⟩
        · exact absurd h2 hne
        · exact absurd h2 c.1
      · rename_i c
        rw [if_neg c] at hne
        exact ih (by omega) hne
  exact key l.length (Nat.le_refl _) hq

/-! ### One thing more -/
theorem fileB_old (l : List Ev) (e : Ev) (id : Int) : ∀ n, n ≤ l.length → fileB (l ++ [e]) id n = fileB l id n := by
  intro n
  induction n with
  | zero => intro _; rfl
  | succ n ih => intro h; rw [fileB, fileB, evAt_old l e n (by omega), ih (by omega)]
theorem fileOf_snoc (l : List Ev) (e : Ev) (id : Int) : fileOf (l ++ [e]) id = if e.kd ≠ 3 ∧ e.id = id then e.tx else fileOf l id := by
  unfold fileOf
  rw [List.length_append, List.length_singleton, fileB, evAt_snoc, fileB_old l e id _ (Nat.le_refl _)]
theorem frmB_old (l : List Ev) (e : Ev) (ky : ByteArray) : ∀ n, n ≤ l.length → frmB (l ++ [e]) ky n = frmB l ky n := by
  intro n
  induction n with
  | zero => intro _; rfl
  | succ n ih => intro h; rw [frmB, frmB, evAt_old l e n (by omega), ih (by omega)]
theorem frmOf_snoc (l : List Ev) (e : Ev) (ky : ByteArray) : frmOf (l ++ [e]) ky = if e.kd = 3 ∧ e.ky = ky then some e.tx else frmOf l ky := by
  unfold frmOf
  rw [List.length_append, List.length_singleton, frmB, evAt_snoc, frmB_old l e ky _ (Nat.le_refl _)]
theorem lastT_old (l : List Ev) (e : Ev) (i : Nat) : ∀ j, i + j < l.length → lastT (l ++ [e]) i j = lastT l i j := by
  intro j
  induction j with
  | zero => intro h; rw [lastT, lastT, evAt_old l e i (by omega)]
  | succ j ih => intro h; rw [lastT, lastT, ih (by omega), evAt_old l e i (by omega), evAt_old l e (i + 1 + j) (by omega)]
/-- Of the first k events, how many are the last of their id, and bind it; of one id alone. -/
def idsP (l : List Ev) (p : Int → Bool) : Nat → Nat
  | 0 => 0
  | k + 1 => idsP l p k + if lastT l k (l.length - (k + 1)) && p (evAt l k).id then 1 else 0
theorem idsP_all (l : List Ev) (k : Nat) : idsP l (fun _ => true) k = idsT l k := by
  induction k with
  | zero => rfl
  | succ k ih => rw [idsP, idsT, ih]; simp
theorem idsP_snoc (l : List Ev) (e : Ev) (p : Int → Bool) : ∀ k, k ≤ l.length → idsP (l ++ [e]) p k = idsP l (fun x => p x && (e.kd == 3 || e.id != x)) k := by
  intro k
  induction k with
  | zero => intro _; rfl
  | succ k ih =>
    intro h
    rw [idsP, idsP, ih (by omega), List.length_append, List.length_singleton, show l.length + 1 - (k + 1) = (l.length - (k + 1)) + 1 from by omega, lastT, lastT_old l e k _ (by omega), evAt_old l e k (by omega),
      show k + 1 + (l.length - (k + 1)) = l.length from by omega, evAt_snoc]
    congr 2
    cases lastT l k (l.length - (k + 1)) <;> cases (e.kd == 3 || e.id != (evAt l k).id) <;> cases p (evAt l k).id <;> rfl
theorem idsP_end (l : List Ev) (e : Ev) (p : Int → Bool) : idsP (l ++ [e]) p (l ++ [e]).length = idsP l (fun x => p x && (e.kd == 3 || e.id != x)) l.length + if e.kd = 1 ∧ p e.id = true then 1 else 0 := by
  have hl : (l ++ [e]).length = l.length + 1 := by simp
  rw [hl, idsP, idsP_snoc l e p _ (Nat.le_refl _), hl, show l.length + 1 - (l.length + 1) = 0 from by omega, lastT, evAt_snoc]
  congr 1
  by_cases h1 : e.kd = 1 <;> cases p e.id <;> simp [h1]
/-- Is a file bound to an id? -/
def bndB (l : List Ev) (id : Int) : Nat → Bool
  | 0 => false
  | k + 1 => if (evAt l k).kd ≠ 3 ∧ (evAt l k).id = id then decide ((evAt l k).kd = 1) else bndB l id k
def bndOf (l : List Ev) (id : Int) : Bool := bndB l id l.length
theorem bndB_old (l : List Ev) (e : Ev) (id : Int) : ∀ n, n ≤ l.length → bndB (l ++ [e]) id n = bndB l id n := by
  intro n
  induction n with
  | zero => intro _; rfl
  | succ n ih => intro h; rw [bndB, bndB, evAt_old l e n (by omega), ih (by omega)]
theorem bndOf_snoc (l : List Ev) (e : Ev) (id : Int) : bndOf (l ++ [e]) id = if e.kd ≠ 3 ∧ e.id = id then decide (e.kd = 1) else bndOf l id := by
  unfold bndOf
  rw [List.length_append, List.length_singleton, bndB, evAt_snoc, bndB_old l e id _ (Nat.le_refl _)]
theorem idsP_congr (l : List Ev) {p q : Int → Bool} (h : ∀ x, p x = q x) (k : Nat) : idsP l p k = idsP l q k := by
  have : p = q := funext h
  rw [this]
theorem idsP_no (l : List Ev) (k : Nat) : idsP l (fun _ => false) k = 0 := by
  induction k with
  | zero => rfl
  | succ k ih => rw [idsP, ih]; simp
theorem snoc_ind {P : List Ev → Prop} (h0 : P []) (h1 : ∀ l e, P l → P (l ++ [e])) (l : List Ev) : P l := by
  have key : ∀ r : List Ev, P r.reverse := by
    intro r
    induction r with
    | nil => exact h0
    | cons e r ih => rw [List.reverse_cons]; exact h1 _ _ ih
  have := key l.reverse
  rwa [List.reverse_reverse] at this
/-- Of one id at most one counts. -/
theorem idsP_one (id : Int) (l : List Ev) : idsP l (fun x => x == id) l.length = if bndOf l id = true then 1 else 0 := by
  refine snoc_ind (P := fun l => idsP l (fun x => x == id) l.length = if bndOf l id = true then 1 else 0) rfl ?_ l
  · intro l e ih
    rw [idsP_end, bndOf_snoc]
    by_cases h3 : e.kd = 3
    · rw [idsP_congr l (q := fun x => x == id) (fun x => by simp [h3]), ih, if_neg (show ¬ (e.kd = 1 ∧ (e.id == id) = true) from fun q => by omega), if_neg (show ¬ (e.kd ≠ 3 ∧ e.id = id) from fun q => q.1 h3), Nat.add_zero]
    · by_cases hid : e.id = id
      · rw [idsP_congr l (q := fun _ => false) (fun x => by by_cases hx : x = id <;> simp [h3, hx, hid]), idsP_no, if_pos (show e.kd ≠ 3 ∧ e.id = id from ⟨h3, hid⟩)]
        by_cases h1 : e.kd = 1 <;> simp [h1, hid]
      · rw [idsP_congr l (q := fun x => x == id) (fun x => by by_cases hx : x = id <;> simp [h3, hx, hid]), ih, if_neg (show ¬ (e.kd = 1 ∧ (e.id == id) = true) from fun q => hid (by simpa using q.2)), if_neg (show ¬ (e.kd ≠ 3 ∧ e.id = id) from fun q => hid q.2), Nat.add_zero]
theorem idsP_part (l : List Ev) (id : Int) : ∀ k, idsP l (fun x => id != x) k + idsP l (fun x => x == id) k = idsP l (fun _ => true) k := by
  intro k
  induction k with
  | zero => rfl
  | succ k ih =>
    rw [idsP, idsP, idsP, ← ih]
    by_cases h : (evAt l k).id = id
    · cases lastT l k (l.length - (k + 1)) <;> simp [h]; omega
    · have h' : ¬ id = (evAt l k).id := fun q => h q.symm
      cases lastT l k (l.length - (k + 1)) <;> simp [h, h']; omega
theorem idsOf_laid (l : List Ev) (e : Ev) (h : e.kd = 3) : idsOf (l ++ [e]) = idsOf l := by
  have := idsP_end l e (fun _ => true)
  rw [idsP_all, idsP_congr l (q := fun _ => true) (fun x => by simp [h]), idsP_all, if_neg (by omega)] at this
  exact this
theorem idsOf_bind (l : List Ev) (e : Ev) (h : e.kd = 1) : idsOf (l ++ [e]) = idsOf l + if bndOf l e.id = true then 0 else 1 := by
  have h1 := idsP_end l e (fun _ => true)
  rw [idsP_all, idsP_congr l (q := fun x => e.id != x) (fun x => by simp [h]), if_pos ⟨h, rfl⟩] at h1
  have h2 := idsP_part l e.id l.length
  rw [idsP_one, idsP_all] at h2
  unfold idsOf
  rw [h1]
  split at h2
  · rename_i c; rw [if_pos c]; omega
  · rename_i c; rw [if_neg c]; omega
theorem idsOf_free (l : List Ev) (e : Ev) (h : e.kd = 2) : idsOf (l ++ [e]) + (if bndOf l e.id = true then 1 else 0) = idsOf l := by
  have h1 := idsP_end l e (fun _ => true)
  rw [idsP_all, idsP_congr l (q := fun x => e.id != x) (fun x => by simp [h]), if_neg (by omega)] at h1
  have h2 := idsP_part l e.id l.length
  rw [idsP_one, idsP_all] at h2
  unfold idsOf
  rw [h1]
  omega
/-- A file is bound just if there is one. -/
theorem LogOk.bnd {l : List Ev} (h : LogOk l) (id : Int) : bndOf l id = true ↔ fileOf l id ≠ ⟨#[]⟩ := by
  have key : ∀ n, n ≤ l.length → (bndB l id n = true ↔ fileB l id n ≠ ⟨#[]⟩) := by
    intro n
    induction n with
    | zero => intro _; simp [bndB, fileB]
    | succ n ih =>
      intro hn
      rw [bndB, fileB]
      split
      · rename_i c
        rcases (h.of n (by omega)).2 with ⟨h1, h2, h3⟩ | ⟨h1, h2⟩ | ⟨h2, _⟩
        · have := pOk_big h2
          simp only [h1, decide_true, true_iff]
          intro q
          rw [q] at this
          have h13 : 13 ≤ (⟨#[]⟩ : ByteArray).size := this.1
          exact absurd h13 (by decide)
        · simp [h1, h2]
        · exact absurd h2 c.1
      · exact ih (by omega)
  exact key l.length (Nat.le_refl _)
theorem pOk_size {f : ByteArray} (h : pOk f) : f.size ≤ 1000 := by
  obtain ⟨h1, h2, h3, h4, h5, h6, h7⟩ := h
  have hE : pE f = pT f + 2 + pL f := rfl
  have hT : pT f = 6 + 2 * btn f 5 := rfl
  have ht := isTB_size h3
  rw [ext_size _ _ _ (by omega)] at ht
  omega
theorem enAns_size (f r : ByteArray) : (enAns f r).1.size ≤ 1000 := by
  unfold enAns
  split
  · show 0 ≤ 1000; omega
  · split
    · show 0 ≤ 1000; omega
    · rename_i h1 h2
      have hk : pOk f := (pOkB_iff f).1 (by cases hq : pOkB f <;> simp_all)
      have hb := pOk_big hk
      have e1 : (le (num f 3 2) 2).size = 2 := le_size _ _
      have e2 : (le r.size 2).size = 2 := le_size _ _
      have e3 : (le (wSum r) 4).size = 4 := le_size _ _
      have eF : (f.extract (f.size - 4) f.size).size = 4 := by rw [ext_size _ _ _ (Nat.le_refl _)]; omega
      have o1 : (⟨#[70, 1]⟩ : ByteArray).size = 2 := rfl
      have o0 : (⟨#[70, 0]⟩ : ByteArray).size = 2 := rfl
      show (enFrm f r).size ≤ 1000
      unfold enFrm enRest
      split
      · simp only [ByteArray.size_append]; omega
      · simp only [ByteArray.size_append]; omega
theorem LogOk.rm {l : List Ev} (h : LogOk l) (id : Int) : LogOk (rmAns l id).2 := by
  unfold rmAns
  split
  · exact h
  · exact h.snoc ⟨by show 0 ≤ 1000; omega, .inr (.inl ⟨rfl, rfl⟩)⟩
theorem LogOk.rg {l : List Ev} (h : LogOk l) (room : Int) (f : ByteArray) : LogOk (rgAns l room f).2.2 := by
  unfold rgAns
  split
  · exact h
  · split
    · exact h
    · rename_i h1 _
      have hk : pOk f := (pOkB_iff f).1 (by cases hq : pOkB f <;> simp_all)
      exact h.snoc ⟨pOk_size hk, .inl ⟨rfl, hk, rfl⟩⟩
theorem LogOk.plant {l : List Ev} (h : LogOk l) (ky fr : ByteArray) : LogOk (plntAns l ky fr).2 := by
  unfold plntAns
  split
  · exact h
  · split
    · exact h
    · exact h.snoc ⟨by show fr.size ≤ 1000; omega, .inr (.inr ⟨rfl, by show 1 ≤ ky.size; omega, by show ky.size ≤ 8; omega⟩)⟩
theorem LogOk.put {l : List Ev} (h : LogOk l) (ky r : ByteArray) (id : Int) : LogOk (putAns l ky r id).2.2 := by
  unfold putAns
  split
  · exact h
  · split
    · exact h
    · split
      · exact h
      · exact h.snoc ⟨enAns_size _ _, .inr (.inr ⟨rfl, by show 1 ≤ ky.size; omega, by show ky.size ≤ 8; omega⟩)⟩
theorem len_rm (l : List Ev) (id : Int) : (rmAns l id).2.length ≤ l.length + 1 := by unfold rmAns; split <;> simp
theorem len_rg (l : List Ev) (room : Int) (f : ByteArray) : (rgAns l room f).2.2.length ≤ l.length + 1 := by
  unfold rgAns
  split
  · simp
  · split <;> simp
theorem len_plant (l : List Ev) (ky fr : ByteArray) : (plntAns l ky fr).2.length ≤ l.length + 1 := by
  unfold plntAns
  split
  · simp
  · split <;> simp
theorem len_put (l : List Ev) (ky r : ByteArray) (id : Int) : (putAns l ky r id).2.2.length ≤ l.length + 1 := by
  unfold putAns
  split
  · simp
  · split
    · simp
    · split <;> simp
end Go.Proofs.Ytnconbpneimjiaa

/-
  P14, P15, plain: texts under keys, in spots that part by the bits of their keys.
  P13, plain: files that are bound to their ids, in a row.
  P14, plain: how many keys there are under which something lies.
-/
import Derived.Test.YtnconbpneimjiaaStoAns
/-! ###  P14, P15, plain: texts under keys, in spots that part by the bits of their keys. -/
namespace Go.Proofs.Ytnconbpneimjiaa
open Go.PlainAid

/-- A spot: its key, its text, where the keys go on that have the bit 0, and the bit 1. -/
structure Spt where
  ky : ByteArray
  tx : ByteArray
  b0 : Nat
  b1 : Nat
/-- A key's bit. -/
def kbit (k : ByteArray) (a : Nat) : Nat := if k.size ≤ a / 8 then 0 else btn k (a / 8) / 2 ^ (a % 8) % 2
theorem kbit_lt (k : ByteArray) (a : Nat) : kbit k a < 2 := by
  unfold kbit
  split
  · omega
  · omega
/-- Where the keys go on. -/
def Spt.nx (s : Spt) (d : Nat) : Nat := if d = 0 then s.b0 else s.b1
/-- Where a key's way is at each step. -/
def pth (sp : Nat → Spt) (k : ByteArray) : Nat → Nat
  | 0 => 0
  | s + 1 => (sp (pth sp k s)).nx (kbit k s)
/-- The first steps all go up. -/
def Ups (sp : Nat → Spt) (k : ByteArray) (s : Nat) : Prop := ∀ j, j < s → pth sp k j < pth sp k (j + 1)
theorem Ups.mono {sp : Nat → Spt} {k : ByteArray} {s t : Nat} (h : Ups sp k s) (ht : t ≤ s) : Ups sp k t := fun j hj => h j (by omega)
theorem Ups.le {sp : Nat → Spt} {k : ByteArray} {s : Nat} (h : Ups sp k s) (j : Nat) (hj : j ≤ s) : pth sp k j ≤ pth sp k s := by
  induction s with
  | zero => rw [show j = 0 from by omega]; exact Nat.le_refl _
  | succ s ih =>
    rcases Nat.lt_or_ge s j with c | c
    · rw [show j = s + 1 from by omega]; exact Nat.le_refl _
    · exact Nat.le_trans (ih (h.mono (by omega)) c) (Nat.le_of_lt (h s (by omega)))
theorem Ups.ge {sp : Nat → Spt} {k : ByteArray} {s : Nat} (h : Ups sp k s) : s ≤ pth sp k s := by
  induction s with
  | zero => exact Nat.zero_le _
  | succ s ih => have := ih (h.mono (by omega)); have := h s (by omega); omega
/-- The spots are in order. -/
structure Shf (sp : Nat → Spt) (n : Nat) : Prop where
  bd : ∀ i, i < n → ∀ d, (sp i).nx d < n
  way : ∀ i, i < n → ∃ s, pth sp (sp i).ky s = i ∧ Ups sp (sp i).ky s
  one : ∀ i j, i < n → j < n → (sp i).ky = (sp j).ky → i = j
theorem Shf.nil (sp : Nat → Spt) : Shf sp 0 := ⟨fun i h => absurd h (Nat.not_lt_zero i), fun i h => absurd h (Nat.not_lt_zero i), fun i _ h => absurd h (Nat.not_lt_zero i)⟩
/-- A key's way has come to step s: none of the spots that it passed has the key. -/
structure Wlk (sp : Nat → Spt) (n : Nat) (k : ByteArray) (s a : Nat) : Prop where
  pos : a = pth sp k s
  ups : Ups sp k s
  nk : ∀ j, j < s → (sp (pth sp k j)).ky ≠ k
theorem Wlk.zero (sp : Nat → Spt) (n : Nat) (k : ByteArray) : Wlk sp n k 0 0 := ⟨rfl, fun j h => absurd h (Nat.not_lt_zero j), fun j h => absurd h (Nat.not_lt_zero j)⟩
theorem Wlk.next {sp : Nat → Spt} {n : Nat} {k : ByteArray} {s a : Nat} (h : Wlk sp n k s a) (hk : (sp a).ky ≠ k) (hn : a < (sp a).nx (kbit k s)) : Wlk sp n k (s + 1) ((sp a).nx (kbit k s)) := by
  refine ⟨?_, ?_, ?_⟩
  · show _ = (sp (pth sp k s)).nx (kbit k s)
    rw [← h.pos]
  · intro j hj
    rcases Nat.lt_or_ge j s with c | c
    · exact h.ups j c
    · rw [show j = s from by omega]
      show pth sp k s < (sp (pth sp k s)).nx (kbit k s)
      rw [← h.pos]; exact hn
  · intro j hj
    rcases Nat.lt_or_ge j s with c | c
    · exact h.nk j c
    · rw [show j = s from by omega, ← h.pos]; exact hk
/-- A way that ends without the key: no spot has it. -/
theorem Wlk.none {sp : Nat → Spt} {n : Nat} {k : ByteArray} {s a : Nat} (h : Wlk sp n k s a) (hS : Shf sp n) (hk : (sp a).ky ≠ k) (hn : (sp a).nx (kbit k s) ≤ a) : ∀ i, i < n → (sp i).ky ≠ k := by
  intro i hi he
  obtain ⟨t, h1, h2⟩ := hS.way i hi
  rw [he] at h1 h2
  rcases Nat.lt_or_ge s t with c | c
  · have := h2 s c
    have e : pth sp k (s + 1) = (sp (pth sp k s)).nx (kbit k s) := rfl
    rw [e, ← h.pos] at this
    omega
  · rcases Nat.lt_or_ge t s with c2 | c2
    · exact h.nk t c2 (by rw [h1]; exact he)
    · have e : s = t := by omega
      rw [h.pos, e, h1] at hk
      exact hk he
/-- How a way ends. -/
structure Fnd0 (sp : Nat → Spt) (n : Nat) (k : ByteArray) (found : Bool) (a d : Nat) : Prop where
  yes : found = true → a < n ∧ (sp a).ky = k
  no : found = false → (∀ i, i < n → (sp i).ky ≠ k) ∧ d < 2 ∧ ((n = 0 ∧ a = 0 ∧ d = 0) ∨ (a < n ∧ ∃ s, Wlk sp n k s a ∧ d = kbit k s ∧ (sp a).nx d ≤ a))
/-- A text laid where the key is. -/
def setTx (sp : Nat → Spt) (a : Nat) (t : ByteArray) (i : Nat) : Spt := if i = a then { sp i with tx := t } else sp i
theorem setTx_ky (sp : Nat → Spt) (a : Nat) (t : ByteArray) (i : Nat) : (setTx sp a t i).ky = (sp i).ky := by unfold setTx; split <;> rfl
theorem setTx_nx (sp : Nat → Spt) (a : Nat) (t : ByteArray) (i d : Nat) : (setTx sp a t i).nx d = (sp i).nx d := by unfold setTx; split <;> rfl
theorem setTx_pth (sp : Nat → Spt) (a : Nat) (t k : ByteArray) (s : Nat) : pth (setTx sp a t) k s = pth sp k s := by
  induction s with
  | zero => rfl
  | succ s ih => rw [pth, pth, ih, setTx_nx]
theorem Shf.set {sp : Nat → Spt} {n : Nat} (h : Shf sp n) (a : Nat) (t : ByteArray) : Shf (setTx sp a t) n := by
  refine ⟨fun i hi d => by rw [setTx_nx]; exact h.bd i hi d, fun i hi => ?_, fun i j hi hj he => h.one i j hi hj (by rwa [setTx_ky, setTx_ky] at he)⟩
  obtain ⟨s, h1, h2⟩ := h.way i hi
  rw [setTx_ky]
  exact ⟨s, by rw [setTx_pth]; exact h1, fun j hj => by rw [setTx_pth, setTx_pth]; exact h2 j hj⟩
/-- A spot more, and the way to it. -/
def addSp (sp : Nat → Spt) (n a d : Nat) (k t : ByteArray) (i : Nat) : Spt :=
  if i = n then ⟨k, t, 0, 0⟩ else if i = a then (if d = 0 then { sp i with b0 := n } else { sp i with b1 := n }) else sp i
theorem addSp_new (sp : Nat → Spt) (n a d : Nat) (k t : ByteArray) : addSp sp n a d k t n = ⟨k, t, 0, 0⟩ := by unfold addSp; rw [if_pos rfl]
theorem addSp_ky (sp : Nat → Spt) (n a d : Nat) (k t : ByteArray) (i : Nat) (hi : i ≠ n) : (addSp sp n a d k t i).ky = (sp i).ky := by
  unfold addSp; rw [if_neg hi]; split
  · split <;> rfl
  · rfl
theorem addSp_tx (sp : Nat → Spt) (n a d : Nat) (k t : ByteArray) (i : Nat) (hi : i ≠ n) : (addSp sp n a d k t i).tx = (sp i).tx := by
  unfold addSp; rw [if_neg hi]; split
  · split <;> rfl
  · rfl
theorem addSp_nx (sp : Nat → Spt) (n a d : Nat) (k t : ByteArray) (i e : Nat) (hi : i ≠ n) (hd : d < 2) (he : e < 2) : (addSp sp n a d k t i).nx e = if i = a ∧ e = d then n else (sp i).nx e := by
  unfold addSp Spt.nx
  rw [if_neg hi]
  by_cases h : i = a
  · by_cases h0 : d = 0
    · by_cases h1 : e = 0
      · simp [h, h0, h1]
      · simp [h, h0, h1]
    · by_cases h1 : e = 0
      · rw [if_pos h, if_neg h0, if_pos h1, if_pos h1, if_neg (by omega)]
      · rw [if_pos h, if_neg h0, if_neg h1, if_neg h1, if_pos (by omega)]
  · simp [h]
/-- Ways that were stay, and so do their ends. -/
theorem addSp_pth {sp : Nat → Spt} {n a d : Nat} {k t x : ByteArray} {s : Nat} (hd : d < 2) (hn : (sp a).nx d ≤ a) (hU : Ups sp x s) (hl : pth sp x s < n) : ∀ j, j ≤ s → pth (addSp sp n a d k t) x j = pth sp x j := by
  intro j
  induction j with
  | zero => intro _; rfl
  | succ j ih =>
    intro hj
    rw [pth, pth, ih (by omega)]
    have h1 := hU.le j (by omega)
    have h2 := hU j (by omega)
    rw [addSp_nx _ _ _ _ _ _ _ _ (by omega) hd (kbit_lt _ _), if_neg]
    rintro ⟨q1, q2⟩
    have e : pth sp x (j + 1) = (sp (pth sp x j)).nx (kbit x j) := rfl
    rw [e, q1, q2] at h2
    omega
theorem Shf.add {sp : Nat → Spt} {n a d : Nat} {k t : ByteArray} (h : Shf sp n) (hf : Fnd0 sp n k false a d) : Shf (addSp sp n a d k t) (n + 1) := by
  obtain ⟨h1, h2, h3⟩ := hf.no rfl
  refine ⟨?_, ?_, ?_⟩
  · intro i hi e
    by_cases hin : i = n
    · rw [hin, addSp_new]; unfold Spt.nx; split
      · exact Nat.succ_pos _
      · exact Nat.succ_pos _
    · have hlt : i < n := by omega
      have hb := h.bd i hlt
      rw [show (addSp sp n a d k t i).nx e = (addSp sp n a d k t i).nx (if e = 0 then 0 else 1) from by unfold Spt.nx; by_cases q : e = 0 <;> simp [q]]
      have hE : (if e = 0 then 0 else 1) < 2 := by split <;> omega
      generalize (if e = 0 then 0 else 1) = E at *
      rw [addSp_nx _ _ _ _ _ _ _ _ hin h2 hE]
      by_cases c : i = a ∧ E = d
      · rw [if_pos c]; omega
      · rw [if_neg c]; have := hb E; omega
  · intro i hi
    rcases h3 with ⟨rfl, rfl, rfl⟩ | ⟨ha, s, hw, hd, hx⟩
    · exact ⟨0, by show 0 = i; omega, fun j hj => absurd hj (Nat.not_lt_zero j)⟩
    · by_cases hin : i = n
      · have hp : pth sp k s < n := by rw [← hw.pos]; exact ha
        have ho := addSp_pth (t := t) (k := k) h2 hx hw.ups hp
        have e2 : pth (addSp sp n a d k t) k (s + 1) = n := by
          rw [pth, ho s (Nat.le_refl _), ← hw.pos, addSp_nx _ _ _ _ _ _ _ _ (by omega) h2 (kbit_lt _ _), if_pos ⟨rfl, hd.symm⟩]
        rw [hin, addSp_new]
        refine ⟨s + 1, e2, fun j hj => ?_⟩
        rcases Nat.lt_or_ge j s with c | c
        · rw [ho j (by omega), ho (j + 1) (by omega)]; exact hw.ups j c
        · rw [show j = s from by omega, e2, ho s (Nat.le_refl _)]; exact hp
      · obtain ⟨s', g1, g2⟩ := h.way i (by omega)
        have ho := addSp_pth (t := t) (k := k) (a := a) (d := d) (n := n) h2 hx g2 (by rw [g1]; omega)
        rw [addSp_ky _ _ _ _ _ _ _ hin]
        exact ⟨s', by rw [ho s' (Nat.le_refl _)]; exact g1, fun j hj => by rw [ho j (by omega), ho (j + 1) (by omega)]; exact g2 j hj⟩
  · intro i j hi hj he
    by_cases hin : i = n
    · by_cases hjn : j = n
      · omega
      · rw [hin, addSp_new, addSp_ky _ _ _ _ _ _ _ hjn] at he
        exact absurd he.symm (h1 j (by omega))
    · by_cases hjn : j = n
      · rw [hjn, addSp_new, addSp_ky _ _ _ _ _ _ _ hin] at he
        exact absurd he (h1 i (by omega))
      · rw [addSp_ky _ _ _ _ _ _ _ hjn, addSp_ky _ _ _ _ _ _ _ hin] at he
        exact h.one i j (by omega) (by omega) he
/-- The spots hold what the log laid. -/
structure ShL (l : List Ev) (sp : Nat → Spt) (n : Nat) : Prop where
  ord : Shf sp n
  has : ∀ i, i < n → frmOf l (sp i).ky = some (sp i).tx
  no : ∀ k, (∀ i, i < n → (sp i).ky ≠ k) → frmOf l k = none
  len : n ≤ l.length
theorem ShL.nil (sp : Nat → Spt) : ShL [] sp 0 := ⟨Shf.nil sp, fun i h => absurd h (Nat.not_lt_zero i), fun _ _ => rfl, Nat.le_refl _⟩
theorem ShL.same {l : List Ev} {sp : Nat → Spt} {n : Nat} (h : ShL l sp n) (e : Ev) (he : e.kd ≠ 3) : ShL (l ++ [e]) sp n := by
  have q : ∀ k, frmOf (l ++ [e]) k = frmOf l k := fun k => by rw [frmOf_snoc, if_neg (fun q => he q.1)]
  exact ⟨h.ord, fun i hi => by rw [q]; exact h.has i hi, fun k hk => by rw [q]; exact h.no k hk, by have := h.len; simp; omega⟩
theorem ShL.set {l : List Ev} {sp : Nat → Spt} {n a : Nat} {k t : ByteArray} (h : ShL l sp n) (ha : a < n) (hk : (sp a).ky = k) (id : Int) : ShL (l ++ [⟨3, id, k, t⟩]) (setTx sp a t) n := by
  refine ⟨h.ord.set a t, fun i hi => ?_, fun x hx => ?_, by have := h.len; simp; omega⟩
  · rw [frmOf_snoc, setTx_ky]
    by_cases c : i = a
    · rw [c, if_pos ⟨rfl, hk.symm⟩]; unfold setTx; rw [if_pos rfl]
    · rw [if_neg (fun q => c (h.ord.one i a hi ha (by rw [hk, ← q.2]))), h.has i hi]; unfold setTx; rw [if_neg c]
  · rw [frmOf_snoc, if_neg, h.no x (fun i hi => by rw [← setTx_ky sp a t i]; exact hx i hi)]
    rintro ⟨_, q⟩
    refine hx a ha ?_
    rw [setTx_ky, hk]; exact q
theorem ShL.add {l : List Ev} {sp : Nat → Spt} {n a d : Nat} {k t : ByteArray} (h : ShL l sp n) (hf : Fnd0 sp n k false a d) (id : Int) : ShL (l ++ [⟨3, id, k, t⟩]) (addSp sp n a d k t) (n + 1) := by
  refine ⟨h.ord.add hf, fun i hi => ?_, fun x hx => ?_, by have := h.len; simp; omega⟩
  · rw [frmOf_snoc]
    by_cases c : i = n
    · rw [c, addSp_new, if_pos ⟨rfl, rfl⟩]
    · rw [addSp_ky _ _ _ _ _ _ _ c, addSp_tx _ _ _ _ _ _ _ c, if_neg (fun q => (hf.no rfl).1 i (by omega) q.2.symm), h.has i (by omega)]
  · rw [frmOf_snoc, if_neg, h.no x (fun i hi => by rw [← addSp_ky sp n a d k t i (by omega)]; exact hx i (by omega))]
    rintro ⟨_, q⟩
    refine hx n (by omega) ?_
    rw [addSp_new]; exact q
end Go.Proofs.Ytnconbpneimjiaa

/-! ###  P13, plain: files that are bound to their ids, in a row. -/
namespace Go.Proofs.Ytnconbpneimjiaa
open Go.PlainAid

/-- The row holds the files that the log bound. -/
structure BdL (l : List Ev) (room : Int) (fl : Nat → ByteArray) (m : Nat) : Prop where
  ok : ∀ i, i < m → pOk (fl i)
  one : ∀ i j, i < m → j < m → num (fl i) 3 2 = num (fl j) 3 2 → i = j
  has : ∀ i, i < m → fileOf l (num (fl i) 3 2 : Int) = fl i
  no : ∀ id : Int, (∀ i, i < m → (num (fl i) 3 2 : Int) ≠ id) → fileOf l id = ⟨#[]⟩
  cnt : idsOf l = m
  rm : (m : Int) ≤ room
theorem BdL.nil (room : Int) (fl : Nat → ByteArray) (h : 0 ≤ room) : BdL [] room fl 0 :=
  ⟨fun i h => absurd h (Nat.not_lt_zero i), fun i _ h => absurd h (Nat.not_lt_zero i), fun i h => absurd h (Nat.not_lt_zero i), fun _ _ => rfl, rfl, h⟩
theorem BdL.same {l : List Ev} {room : Int} {fl : Nat → ByteArray} {m : Nat} (h : BdL l room fl m) (e : Ev) (he : e.kd = 3) : BdL (l ++ [e]) room fl m := by
  have q : ∀ id, fileOf (l ++ [e]) id = fileOf l id := fun id => by rw [fileOf_snoc, if_neg (fun q => q.1 he)]
  exact ⟨h.ok, h.one, fun i hi => by rw [q]; exact h.has i hi, fun id hi => by rw [q]; exact h.no id hi, by rw [idsOf_laid l e he]; exact h.cnt, h.rm⟩
theorem pOk_nemp {f : ByteArray} (h : pOk f) : f ≠ ⟨#[]⟩ := by
  intro q
  have := (pOk_big h).1
  rw [q] at this
  have h13 : 13 ≤ (⟨#[]⟩ : ByteArray).size := this
  exact absurd h13 (by decide)
/-- One row's file another. -/
def setFl (fl : Nat → ByteArray) (a : Nat) (f : ByteArray) (i : Nat) : ByteArray := if i = a then f else fl i
theorem setFl_at (fl : Nat → ByteArray) (a : Nat) (f : ByteArray) : setFl fl a f a = f := if_pos rfl
theorem setFl_ne (fl : Nat → ByteArray) (a : Nat) (f : ByteArray) (i : Nat) (h : i ≠ a) : setFl fl a f i = fl i := if_neg h
theorem BdL.set {l : List Ev} {room : Int} {fl : Nat → ByteArray} {m a : Nat} {f : ByteArray} (h : BdL l room fl m) (hL : LogOk l) (ha : a < m) (hf : pOk f) (he : num (fl a) 3 2 = num f 3 2) (k : ByteArray) : BdL (l ++ [⟨1, (num f 3 2 : Int), k, f⟩]) room (setFl fl a f) m := by
  have hn : ∀ i, num (setFl fl a f i) 3 2 = num (fl i) 3 2 := by
    intro i
    by_cases c : i = a
    · rw [c, setFl_at]; exact he.symm
    · rw [setFl_ne _ _ _ _ c]
  refine ⟨?_, ?_, ?_, ?_, ?_, h.rm⟩
  · intro i hi
    by_cases c : i = a
    · rw [c, setFl_at]; exact hf
    · rw [setFl_ne _ _ _ _ c]; exact h.ok i hi
  · intro i j hi hj; rw [hn, hn]; exact h.one i j hi hj
  · intro i hi
    rw [hn, fileOf_snoc]
    by_cases c : i = a
    · rw [c, if_pos ⟨by show (1 : Nat) ≠ 3; decide, by rw [he]⟩, setFl_at]
    · rw [if_neg, setFl_ne _ _ _ _ c]; exact h.has i hi
      rintro ⟨_, q⟩
      have q' : (num f 3 2 : Int) = (num (fl i) 3 2 : Int) := q
      exact c (h.one i a hi ha (by omega))
  · intro id hi
    have hi' : ∀ i, i < m → (num (fl i) 3 2 : Int) ≠ id := fun i h => by rw [← hn i]; exact hi i h
    rw [fileOf_snoc, if_neg, h.no id hi']
    rintro ⟨_, q⟩
    have q' : (num f 3 2 : Int) = id := q
    exact hi' a ha (by rw [he]; exact q')
  · rw [idsOf_bind _ _ rfl, if_pos, Nat.add_zero]; exact h.cnt
    rw [hL.bnd]
    show fileOf l (num f 3 2 : Int) ≠ _
    rw [← he, h.has a ha]
    exact pOk_nemp (h.ok a ha)
theorem BdL.add {l : List Ev} {room : Int} {fl : Nat → ByteArray} {m : Nat} {f : ByteArray} (h : BdL l room fl m) (hL : LogOk l) (hf : pOk f) (hno : ∀ i, i < m → num (fl i) 3 2 ≠ num f 3 2) (hr : (m : Int) < room) (k : ByteArray) : BdL (l ++ [⟨1, (num f 3 2 : Int), k, f⟩]) room (setFl fl m f) (m + 1) := by
  refine ⟨?_, ?_, ?_, ?_, ?_, by omega⟩
  · intro i hi
    by_cases c : i = m
    · rw [c, setFl_at]; exact hf
    · rw [setFl_ne _ _ _ _ c]; exact h.ok i (by omega)
  · intro i j hi hj
    by_cases c : i = m
    · by_cases d : j = m
      · intro _; omega
      · rw [c, setFl_at, setFl_ne _ _ _ _ d]; intro q; exact absurd q.symm (hno j (by omega))
    · by_cases d : j = m
      · rw [d, setFl_at, setFl_ne _ _ _ _ c]; intro q; exact absurd q (hno i (by omega))
      · rw [setFl_ne _ _ _ _ c, setFl_ne _ _ _ _ d]; exact h.one i j (by omega) (by omega)
  · intro i hi
    rw [fileOf_snoc]
    by_cases c : i = m
    · rw [c, setFl_at, if_pos ⟨by show (1 : Nat) ≠ 3; decide, rfl⟩]
    · rw [setFl_ne _ _ _ _ c, if_neg]; exact h.has i (by omega)
      rintro ⟨_, q⟩
      have q' : (num f 3 2 : Int) = (num (fl i) 3 2 : Int) := q
      exact hno i (by omega) (by omega)
  · intro id hi
    have hm := hi m (by omega)
    rw [setFl_at] at hm
    rw [fileOf_snoc, if_neg (fun q => hm q.2), h.no id (fun i hh => by have := hi i (by omega); rwa [setFl_ne _ _ _ _ (by omega)] at this)]
  · rw [idsOf_bind _ _ rfl, if_neg, h.cnt]
    rw [hL.bnd]
    show ¬ fileOf l (num f 3 2 : Int) ≠ _
    intro q
    exact q (h.no _ (fun i hi q2 => hno i hi (by omega)))
/-- The row without one. -/
def cutFl (fl : Nat → ByteArray) (a i : Nat) : ByteArray := if i < a then fl i else fl (i + 1)
theorem BdL.cut {l : List Ev} {room : Int} {fl : Nat → ByteArray} {m a : Nat} (h : BdL l room fl m) (hL : LogOk l) (ha : a < m) (k : ByteArray) : BdL (l ++ [⟨2, (num (fl a) 3 2 : Int), k, ⟨#[]⟩⟩]) room (cutFl fl a) (m - 1) := by
  have at' : ∀ i, i < m - 1 → ∃ j, cutFl fl a i = fl j ∧ j < m ∧ j ≠ a ∧ (j = if i < a then i else i + 1) := by
    intro i hi
    unfold cutFl
    split
    · exact ⟨i, rfl, by omega, by omega, rfl⟩
    · exact ⟨i + 1, rfl, by omega, by omega, rfl⟩
  refine ⟨?_, ?_, ?_, ?_, ?_, by have := h.rm; omega⟩
  · intro i hi
    obtain ⟨j, e, h1, _⟩ := at' i hi
    rw [e]; exact h.ok j h1
  · intro i i2 hi hi2 he
    obtain ⟨j, e, h1, _, h3⟩ := at' i hi
    obtain ⟨j2, e2, g1, _, g3⟩ := at' i2 hi2
    rw [e, e2] at he
    have := h.one j j2 h1 g1 he
    rw [h3, g3] at this
    split at this <;> split at this <;> omega
  · intro i hi
    obtain ⟨j, e, h1, h2, _⟩ := at' i hi
    rw [e, fileOf_snoc, if_neg, h.has j h1]
    rintro ⟨_, q⟩
    have q' : (num (fl a) 3 2 : Int) = (num (fl j) 3 2 : Int) := q
    exact h2 (h.one j a h1 ha (by omega))
  · intro id hi
    rw [fileOf_snoc]
    by_cases c : (num (fl a) 3 2 : Int) = id
    · rw [if_pos ⟨by show (2 : Nat) ≠ 3; decide, c⟩]
    · rw [if_neg (fun q => c q.2)]
      refine h.no id (fun j hj => ?_)
      by_cases ca : j = a
      · rw [ca]; exact c
      · rcases Nat.lt_or_ge j a with d | d
        · have := hi j (by omega)
          unfold cutFl at this; rwa [if_pos d] at this
        · have := hi (j - 1) (by omega)
          unfold cutFl at this
          rwa [if_neg (by omega), show j - 1 + 1 = j from by omega] at this
  · have := idsOf_free l ⟨2, (num (fl a) 3 2 : Int), k, ⟨#[]⟩⟩ rfl
    rw [if_pos, h.cnt] at this
    · omega
    · rw [hL.bnd]
      show fileOf l (num (fl a) 3 2 : Int) ≠ _
      rw [h.has a ha]
      exact pOk_nemp (h.ok a ha)
end Go.Proofs.Ytnconbpneimjiaa

/-! ###  P14, plain: how many keys there are under which something lies. -/
namespace Go.Proofs.Ytnconbpneimjiaa
open Go.PlainAid

/-- Not too many keys have something. -/
def KN (l : List Ev) : Prop := ∀ ks : List ByteArray, ks.Nodup → (∀ k ∈ ks, frmOf l k ≠ none) → ks.length < 1800000000000
theorem nodup_le {α : Type} [DecidableEq α] {ks : List α} : ∀ {L : List α}, ks.Nodup → (∀ k ∈ ks, k ∈ L) → ks.length ≤ L.length := by
  induction ks with
  | nil => intro L _ _; exact Nat.zero_le _
  | cons k ks ih =>
    intro L h1 h2
    rw [List.nodup_cons] at h1
    have hk : k ∈ L := h2 k (by simp)
    have h3 := ih (L := L.erase k) h1.2 (fun x hx => by
      have hne : x ≠ k := fun e => h1.1 (by rw [← e]; exact hx)
      exact (List.mem_erase_of_ne hne).2 (h2 x (by simp [hx])))
    rw [List.length_erase_of_mem hk] at h3
    have hL : 0 < L.length := List.length_pos_of_mem hk
    rw [List.length_cons]
    omega
theorem frm_key (k : ByteArray) (l : List Ev) : frmOf l k ≠ none → k ∈ l.map Ev.ky := by
  refine snoc_ind (P := fun l => frmOf l k ≠ none → k ∈ l.map Ev.ky) (fun h => absurd rfl h) ?_ l
  intro l e ih h
  rw [frmOf_snoc] at h
  rw [List.map_append, List.mem_append]
  by_cases c : e.kd = 3 ∧ e.ky = k
  · exact .inr (by simp [c.2])
  · rw [if_neg c] at h
    exact .inl (ih h)
theorem KN.of_len {l : List Ev} (h : l.length < 1800000000000) : KN l := by
  intro ks h1 h2
  have := nodup_le h1 (L := l.map Ev.ky) (fun k hk => frm_key k l (h2 k hk))
  rw [List.length_map] at this
  omega
end Go.Proofs.Ytnconbpneimjiaa

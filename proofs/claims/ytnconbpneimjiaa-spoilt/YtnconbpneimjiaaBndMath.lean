/-
  P13, plain: files that are bound to their ids, in a row.
-/
import Derived.Test.YtnconbpneimjiaaStoAns
namespace Go.Proofs.Ytnconbpneimjiaa
open Go.PlainAid

/-- The row holds the files that the log bound. -/
structure BdL (l : List Ev) (room : Int) (fl : Nat → ByteArray) (m : Nat) : Prop where
  ok : ∀ i, i < m → pOk (fl i)
  one : ∀ i j, i < m → j < m → num (fl i) 3 2 = num (fl j) 3 2 → i = j
  has : ∀ i, i < m → fileOf l (num (fl i) 3 2 : Int) = fl i
  no : ∀ id : Int, (∀ i, i < m → (num (fl i) 3 2 : Int) ≠ id) → fileOf l id = ⟨#[]⟩
  cnt : idsOf l = m
  rm : (m : Int) ≤ room
theorem BdL.nil (room : Int) (fl : Nat → ByteArray) (h : 0 ≤ room) : BdL [] room fl 0 :=
  ⟨fun i h => absurd h (Nat.not_lt_zero i), fun i _ h => absurd h (Nat.not_lt_zero i), fun i h => absurd h (Nat.not_lt_zero i), fun _ _ => rfl, rfl, h⟩
theorem BdL.same {l : List Ev} {room : Int} {fl : Nat → ByteArray} {m : Nat} (h : BdL l room fl m) (e : Ev) (he : e.kd = 3) : BdL (l ++ [e]) room fl m := by
  have q : ∀ id, fileOf (l ++ [e]) id = fileOf l id := fun id => by rw [fileOf_snoc, if_neg (fun q => q.1 he)]
  exact ⟨h.ok, h.one, fun i hi => by rw [q]; exact h.has i hi, fun id hi => by rw [q]; exact h.no id hi, by rw [idsOf_laid l e he]; exact h.cnt, h.rm⟩
theorem pOk_ne {f : ByteArray} (h : pOk f) : f ≠ ⟨#[]⟩ := by
  intro q
  have := (pOk_big h).1
  rw [q] at this
  have h13 : 13 ≤ (⟨#[]⟩ : ByteArray).size := this
  exact absurd h13 (by decide)
/-- One row's file another. -/
def setFl (fl : Nat → ByteArray) (a : Nat) (f : ByteArray) (i : Nat) : ByteArray := if i = a then f else fl i
theorem setFl_at (fl : Nat → ByteArray) (a : Nat) (f : ByteArray) : setFl fl a f a = f := if_pos rfl
theorem setFl_ne (fl : Nat → ByteArray) (a : Nat) (f : ByteArray) (i : Nat) (h : i ≠ a) : setFl fl a f i = fl i := if_neg h
theorem BdL.set {l : List Ev} {room : Int} {fl : Nat → ByteArray} {m a : Nat} {f : ByteArray} (h : BdL l room fl m) (hL : LogOk l) (ha : a < m) (hf : pOk f) (he : num (fl a) 3 2 = num f 3 2) (k : ByteArray) : BdL (l ++ [⟨1, (num f 3 2 : Int), k, f⟩]) room (setFl fl a f) m := by
  have hn : ∀ i, num (setFl fl a f i) 3 2 = num (fl i) 3 2 := by
    intro i
    by_cases c : i = a
    · rw [c, setFl_at]; exact he.symm
    · rw [setFl_ne _ _ _ _ c]
  refine ⟨?_, ?_, ?_, ?_, ?_, h.rm⟩
  · intro i hi
    by_cases c : i = a
    · rw [c, setFl_at]; exact hf
    · rw [setFl_ne _ _ _ _ c]; exact h.ok i hi
  · intro i j hi hj; rw [hn, hn]; exact h.one i j hi hj
  · intro i hi
    rw [hn, fileOf_snoc]
    by_cases c : i = a
    · rw [c, if_pos ⟨by show (1 : Nat) ≠ 3; decide, by rw [he]⟩, setFl_at]
    · rw [if_neg, setFl_ne _ _ _ _ c]; exact h.has i hi
      rintro ⟨_, q⟩
      have q' : (num f 3 2 : Int) = (num (fl i) 3 2 : Int) := q
      exact c (h.one i a hi ha (by omega))
  · intro id hi
    have hi' : ∀ i, i < m → (num (fl i) 3 2 : Int) ≠ id := fun i h => by rw [← hn i]; exact hi i h
    rw [fileOf_snoc, if_neg, h.no id hi']
    rintro ⟨_, q⟩
    have q' : (num f 3 2 : Int) = id := q
    exact hi' a ha (by rw [he]; exact q')
  · rw [idsOf_bind _ _ rfl, if_pos, Nat.add_zero]; exact h.cnt
    rw [hL.bnd]
    show fileOf l (num f 3 2 : Int) ≠ _
    rw [← he, h.has a ha]
    exact pOk_ne (h.ok a ha)
theorem BdL.add {l : List Ev} {room : Int} {fl : Nat → ByteArray} {m : Nat} {f : ByteArray} (h : BdL l room fl m) (hL : LogOk l) (hf : pOk f) (hno : ∀ i, i < m → num (fl i) 3 2 ≠ num f 3 2) (hr : (m : Int) < room) (k : ByteArray) : BdL (l ++ [⟨1, (num f 3 2 : Int), k, f⟩]) room (setFl fl m f) (m + 1) := by
  refine ⟨?_, ?_, ?_, ?_, ?_, by omega⟩
  · intro i hi
    by_cases c : i = m
    · rw [c, setFl_at]; exact hf
    · rw [setFl_ne _ _ _ _ c]; exact h.ok i (by omega)
  · intro i j hi hj
    by_cases c : i = m
    · by_cases d : j = m
      · intro _; omega
      · rw [c, setFl_at, setFl_ne _ _ _ _ d]; intro q; exact absurd q.symm (hno j (by omega))
    · by_cases d : j = m
      · rw [d, setFl_at, setFl_ne _ _ _ _ c]; intro q; exact absurd q (hno i (by omega))
      · rw [setFl_ne _ _ _ _ c, setFl_ne _ _ _ _ d]; exact h.one i j (by omega) (by omega)
  · intro i hi
    rw [fileOf_snoc]
    by_cases c : i = m
    · rw [c, setFl_at, if_pos ⟨by show (1 : Nat) ≠ 3; decide, rfl⟩]
    · rw [setFl_ne _ _ _ _ c, if_neg]; exact h.has i (by omega)
      rintro ⟨_, q⟩
      have q' : (num f 3 2 : Int) = (num (fl i) 3 2 : Int) := q
      exact hno i (by omega) (by omega)
  · intro id hi
    have hm := hi m (by omega)
    rw [setFl_at] at hm
    rw [fileOf_snoc, if_neg (fun q => hm q.2), h.no id (fun i hh => by have := hi i (by omega); rwa [setFl_ne _ _ _ _ (by omega)] at this)]
  · rw [idsOf_bind _ _ rfl, if_neg, h.cnt]
    rw [hL.bnd]
    show ¬ fileOf l (num f 3 2 : Int) ≠ _
    intro q
    exact q (h.no _ (fun i hi q2 => hno i hi (by omega)))
/-- The row without one. -/
def cutFl (fl : Nat → ByteArray) (a i : Nat) : ByteArray := if i < a then fl i else fl (i + 1)
theorem BdL.cut {l : List Ev} {room : Int} {fl : Nat → ByteArray} {m a : Nat} (h : BdL l room fl m) (hL : LogOk l) (ha : a < m) (k : ByteArray) : BdL (l ++ [⟨2, (num (fl a) 3 2 : Int), k, ⟨#[]⟩⟩]) room (cutFl fl a) (m - 1) := by
  have at' : ∀ i, i < m - 1 → ∃ j, cutFl fl a i = fl j ∧ j < m ∧ j ≠ a ∧ (j = if i < a then i else i + 1) := by
    intro i hi
    unfold cutFl
    split
    · exact ⟨i, rfl, by omega, by omega, rfl⟩
    · exact ⟨i + 1, rfl, by omega, by omega, rfl⟩
  refine ⟨?_, ?_, ?_, ?_, ?_, by have := h.rm; omega⟩
  · intro i hi
    obtain ⟨j, e, h1, _⟩ := at' i hi
    rw [e]; exact h.ok j h1
  · intro i i2 hi hi2 he
    obtain ⟨j, e, h1, _, h3⟩ := at' i hi
    obtain ⟨j2, e2, g1, _, g3⟩ := at' i2 hi2
    rw [e, e2] at he
    have := h.one j j2 h1 g1 he
    rw [h3, g3] at this
    split at this <;> split at this <;> omega
  · intro i hi
    obtain ⟨j, e, h1, h2, _⟩ := at' i hi
    rw [e, fileOf_snoc, if_neg, h.has j h1]
    rintro ⟨_, q⟩
    have q' : (num (fl a) 3 2 : Int) = (num (fl j) 3 2 : Int) := q
    exact h2 (h.one j a h1 ha (by omega))
  · intro id hi
    rw [fileOf_snoc]
    by_cases c : (num (fl a) 3 2 : Int) = id
    · rw [if_pos ⟨by show (2 : Nat) ≠ 3; decide, c⟩]
    · rw [if_neg (fun q => c q.2)]
      refine h.no id (fun j hj => ?_)
      by_cases ca : j = a
      · rw [ca]; exact c
      · rcases Nat.lt_or_ge j a with d | d
        · have := hi j (by omega)
          unfold cutFl at this; rwa [if_pos d] at this
        · have := hi (j - 1) (by omega)
          unfold cutFl at this
          rwa [if_neg (by omega), show j - 1 + 1 = j from by omega] at this
  · have := idsOf_free l ⟨2, (num (fl a) 3 2 : Int), k, ⟨#[]⟩⟩ rfl
    rw [if_pos, h.cnt] at this
    · omega
    · rw [hL.bnd]
      show fileOf l (num (fl a) 3 2 : Int) ≠ _
      rw [h.has a ha]
      exact pOk_ne (h.ok a ha)
end Go.Proofs.Ytnconbpneimjiaa

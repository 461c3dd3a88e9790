/-
  P7, plain: pieces, windows, scores, contents.
-/
import Derived.Test.YtjnieekhagmdfaaFileDefs
namespace Go.Proofs.Ytjnieekhagmdfaa
open Go.PlainAid

/-- The piece at a place. -/
def pc (s : ByteArray) (d i : Nat) : ByteArray := s.extract i (i + d)
/-- The nearest place below c at which the piece of a stands. -/
def prvF (s : ByteArray) (d a : Nat) : Nat → Int
  | 0 => -1
  | c + 1 => if pc s d c = pc s d a then (c : Int) else prvF s d a c
def prv (s : ByteArray) (d a : Nat) : Int := prvF s d a a
def fsF (s : ByteArray) (d a : Nat) : Nat → Nat
  | 0 => a
  | n + 1 => if pc s d (a - (n + 1)) = pc s d a then a - (n + 1) else fsF s d a n
/-- The first place at which the piece of a stands. -/
def fs (s : ByteArray) (d a : Nat) : Nat := fsF s d a a
theorem prvF_spec (s : ByteArray) (d a c : Nat) : -1 ≤ prvF s d a c ∧ prvF s d a c < c ∧ (0 ≤ prvF s d a c → pc s d (prvF s d a c).toNat = pc s d a) ∧ ∀ j : Nat, prvF s d a c < j → j < c → pc s d j ≠ pc s d a := by
  induction c with
  | zero => exact ⟨by simp [prvF], by simp [prvF], fun h => by simp [prvF] at h, fun j _ h => by omega⟩
  | succ c ih =>
    rw [prvF]
    split
    · rename_i h
      refine ⟨by omega, by omega, fun _ => by rw [Int.toNat_natCast]; exact h, fun j h1 h2 => by omega⟩
    · rename_i h
      obtain ⟨i1, i2, i3, i4⟩ := ih
      refine ⟨i1, by omega, i3, fun j h1 h2 => ?_⟩
      rcases Nat.lt_or_ge j c with e | e
      · exact i4 j h1 e
      · obtain rfl : j = c := by omega
        exact h
theorem prv_spec (s : ByteArray) (d a : Nat) : -1 ≤ prv s d a ∧ prv s d a < a ∧ (0 ≤ prv s d a → pc s d (prv s d a).toNat = pc s d a) ∧ ∀ j : Nat, prv s d a < j → j < a → pc s d j ≠ pc s d a := prvF_spec s d a a
theorem fsF_spec (s : ByteArray) (d a n : Nat) (hn : n ≤ a) : a - n ≤ fsF s d a n ∧ fsF s d a n ≤ a ∧ pc s d (fsF s d a n) = pc s d a ∧ ∀ j, a - n ≤ j → j < fsF s d a n → pc s d j ≠ pc s d a := by
  induction n with
  | zero => exact ⟨by simp [fsF], Nat.le_refl _, rfl, fun j h1 h2 => by simp [fsF] at h2; omega⟩
  | succ n ih =>
    rw [fsF]
    split
    · rename_i h
      exact ⟨Nat.le_refl _, by omega, h, fun j h1 h2 => by omega⟩
    · rename_i h
      obtain ⟨i1, i2, i3, i4⟩ := ih (by omega)
      refine ⟨by omega, i2, i3, fun j h1 h2 => ?_⟩
      rcases Nat.lt_or_ge j (a - n) with e | e
      · obtain rfl : j = a - (n + 1) := by omega
        exact h
      · exact i4 j e h2
theorem fs_spec (s : ByteArray) (d a : Nat) : fs s d a ≤ a ∧ pc s d (fs s d a) = pc s d a ∧ ∀ j, j < fs s d a → pc s d j ≠ pc s d a := by
  obtain ⟨_, h2, h3, h4⟩ := fsF_spec s d a a (Nat.le_refl _)
  exact ⟨h2, h3, fun j hj => h4 j (by omega) hj⟩
theorem fs_uniq {s : ByteArray} {d a j : Nat} (h1 : pc s d j = pc s d a) (h2 : ∀ i, i < j → pc s d i ≠ pc s d a) : fs s d a = j := by
  obtain ⟨_, f2, f3⟩ := fs_spec s d a
  rcases Nat.lt_trichotomy (fs s d a) j with c | c | c
  · exact absurd f2 (h2 _ c)
  · exact c
  · exact absurd h1 (f3 _ c)
theorem fs_eq {s : ByteArray} {d a b : Nat} : fs s d a = fs s d b ↔ pc s d a = pc s d b := by
  constructor
  · intro h
    rw [← (fs_spec s d a).2.1, h, (fs_spec s d b).2.1]
  · intro h
    refine fs_uniq ?_ (fun i hi => ?_)
    · rw [(fs_spec s d b).2.1, h]
    · rw [h]; exact (fs_spec s d b).2.2 i hi
theorem fs_prv (s : ByteArray) (d a : Nat) : fs s d a = if 0 ≤ prv s d a then fs s d (prv s d a).toNat else a := by
  obtain ⟨p1, p2, p3, p4⟩ := prv_spec s d a
  split
  · rename_i h
    exact fs_eq.2 (p3 h).symm
  · rename_i h
    exact fs_uniq rfl (fun i hi => p4 i (by omega) hi)
/-- The piece stood in the window already. -/
theorem again_iff (s : ByteArray) (d i j : Nat) : (∃ k, i ≤ k ∧ k < j ∧ fs s d k = fs s d j) ↔ ¬ prv s d j < (i : Int) := by
  obtain ⟨p1, p2, p3, p4⟩ := prv_spec s d j
  constructor
  · rintro ⟨k, h1, h2, h3⟩ h
    exact p4 k (by omega) h2 (fs_eq.1 h3)
  · intro h
    exact ⟨(prv s d j).toNat, by omega, by omega, fs_eq.2 (p3 (by omega))⟩

/-- At how many of the first n places the piece with the first place j stands. -/
def tmTo (s : ByteArray) (d : Nat) : Nat → Nat → Nat
  | 0, _ => 0
  | n + 1, j => tmTo s d n j + if fs s d n = j then 1 else 0
theorem tmTo_le (s : ByteArray) (d n j : Nat) : tmTo s d n j ≤ n := by
  induction n with
  | zero => exact Nat.le_refl _
  | succ n ih => rw [tmTo]; split <;> omega
theorem tmTo_mono (s : ByteArray) (d j : Nat) {a b : Nat} (h : a ≤ b) : tmTo s d a j ≤ tmTo s d b j := by
  induction b with
  | zero => obtain rfl : a = 0 := by omega
            exact Nat.le_refl _
  | succ b ih =>
    rcases Nat.lt_or_ge b a with c | c
    · obtain rfl : a = b + 1 := by omega
      exact Nat.le_refl _
    · have := ih c; rw [tmTo]; omega
theorem tmTo_pos {s : ByteArray} {d n a : Nat} (h : a < n) : 1 ≤ tmTo s d n (fs s d a) := by
  have h1 : tmTo s d (a + 1) (fs s d a) ≤ tmTo s d n (fs s d a) := tmTo_mono s d _ (by omega)
  rw [tmTo, if_pos rfl] at h1
  omega
/-- What the piece with the first place j counts. -/
def hw (s : ByteArray) (d N : Nat) (tk : Nat → Bool) (j : Nat) : Nat := if tk j then 0 else tmTo s d N j
theorem hw_le (s : ByteArray) (d N : Nat) (tk : Nat → Bool) (j : Nat) : hw s d N tk j ≤ N := by
  unfold hw; split
  · omega
  · exact tmTo_le _ _ _ _
/-- The score of the first x pieces of the window at i. -/
def scTo (s : ByteArray) (d N : Nat) (tk : Nat → Bool) (i : Nat) : Nat → Nat
  | 0 => 0
  | x + 1 => scTo s d N tk i x + if prv s d (i + x) < (i : Int) then hw s d N tk (fs s d (i + x)) else 0
theorem scTo_le (s : ByteArray) (d N : Nat) (tk : Nat → Bool) (i x : Nat) : scTo s d N tk i x ≤ x * N := by
  induction x with
  | zero => simp [scTo]
  | succ x ih =>
    rw [scTo, Nat.succ_mul]
    have := hw_le s d N tk (fs s d (i + x))
    split <;> omega
/-- The best of the first n windows: where it begins, its score. -/
def bsTo (s : ByteArray) (d N : Nat) (tk : Nat → Bool) (w : Nat) : Nat → Nat × Nat
  | 0 => (0, 0)
  | n + 1 => if (bsTo s d N tk w n).2 < scTo s d N tk n w then (n, scTo s d N tk n w) else bsTo s d N tk w n
theorem bsTo_lt (s : ByteArray) (d N : Nat) (tk : Nat → Bool) (w n : Nat) (h : 0 < n) : (bsTo s d N tk w n).1 < n := by
  induction n with
  | zero => omega
  | succ n ih =>
    rw [bsTo]
    split
    · exact Nat.lt_succ_self _
    · rcases Nat.eq_zero_or_pos n with c | c
      · subst c; simp [bsTo]
      · have := ih c; omega
theorem bsTo_le (s : ByteArray) (d N : Nat) (tk : Nat → Bool) (w n : Nat) : (bsTo s d N tk w n).2 ≤ w * N := by
  induction n with
  | zero => simp [bsTo]
  | succ n ih =>
    rw [bsTo]
    split
    · exact scTo_le _ _ _ _ _ _
    · exact ih
theorem bsTo_max (s : ByteArray) (d N : Nat) (tk : Nat → Bool) (w n i : Nat) (h : i < n) : scTo s d N tk i w ≤ (bsTo s d N tk w n).2 := by
  induction n with
  | zero => omega
  | succ n ih =>
    rw [bsTo]
    rcases Nat.lt_or_ge i n with c | c
    · have := ih c
      split
      · simp only; omega
      · exact this
    · obtain rfl : i = n := by omega
      split
      · exact Nat.le_refl _
      · omega
/-- The first x pieces of the window at i are taken. -/
def tkTo (s : ByteArray) (d : Nat) (tk : Nat → Bool) (i : Nat) : Nat → Nat → Bool
  | 0, j => tk j
  | x + 1, j => if fs s d (i + x) = j then true else tkTo s d tk i x j
theorem tkTo_iff (s : ByteArray) (d : Nat) (tk : Nat → Bool) (i x j : Nat) : tkTo s d tk i x j = true ↔ tk j = true ∨ ∃ y, y < x ∧ fs s d (i + y) = j := by
  induction x with
  | zero => simp [tkTo]
  | succ x ih =>
    rw [tkTo]
    split
    · rename_i h
      exact ⟨fun _ => .inr ⟨x, by omega, h⟩, fun _ => rfl⟩
    · rename_i h
      rw [ih]
      constructor
      · rintro (c | ⟨y, h1, h2⟩)
        · exact .inl c
        · exact .inr ⟨y, by omega, h2⟩
      · rintro (c | ⟨y, h1, h2⟩)
        · exact .inl c
        · rcases Nat.lt_or_ge y x with e | e
          · exact .inr ⟨y, e, h2⟩
          · obtain rfl : y = x := by omega
            exact absurd h2 h

/-- The last n bytes. -/
def lastN (c : ByteArray) (n : Nat) : ByteArray := c.extract (c.size - n) c.size
theorem lastN_all {c : ByteArray} {n : Nat} (h : c.size ≤ n) : lastN c n = c := by
  unfold lastN; rw [show c.size - n = 0 from by omega, ByteArray.extract_zero_size]
theorem lastN_size (c : ByteArray) {n : Nat} (h : n ≤ c.size) : (lastN c n).size = n := by
  unfold lastN; rw [ext_size _ _ _ (Nat.le_refl _)]; omega
theorem lastN_app (a b : ByteArray) {n : Nat} (h1 : b.size ≤ n) (h2 : n ≤ a.size + b.size) : lastN (a ++ b) n = lastN a (n - b.size) ++ b := by
  have hs : (lastN a (n - b.size)).size = n - b.size := lastN_size a (by omega)
  have hsz : (a ++ b).size = a.size + b.size := ByteArray.size_append
  refine text_ext (by rw [lastN_size _ (by omega), ByteArray.size_append, hs]; omega) (fun i hi => ?_)
  rw [lastN_size _ (by omega)] at hi
  rw [btn_app, hs]
  unfold lastN
  rw [btn_ext _ _ _ _ (by omega) (Nat.le_refl _), btn_app]
  by_cases c : i < n - b.size
  · rw [if_pos c, if_pos (by omega), btn_ext _ _ _ _ (by omega) (Nat.le_refl _)]
    congr 1; omega
  · rw [if_neg c, if_neg (by omega)]
    congr 1; omega
/-- The content, on from a state. -/
def covF (s : ByteArray) (k d N B : Nat) : Nat → (Nat → Bool) → ByteArray → ByteArray
  | 0, _, c => c
  | f + 1, tk, c =>
    if c.size < B then
      if (bsTo s d N tk (k - d + 1) (s.size - k + 1)).2 = 0 then c
      else covF s k d N B f (tkTo s d tk (bsTo s d N tk (k - d + 1) (s.size - k + 1)).1 (k - d + 1)) (s.extract (bsTo s d N tk (k - d + 1) (s.size - k + 1)).1 ((bsTo s d N tk (k - d + 1) (s.size - k + 1)).1 + k) ++ c)
    else lastN c B
def cov (s : ByteArray) (k d B : Nat) : ByteArray := covF s k d (s.size - d + 1) B (B + 1) (fun _ => false) ⟨#[]⟩
/-- May a content be made so? -/
def covErr (s : ByteArray) (k d B : Int) : Int := if 800 < s.size then 1 else if d < 1 ∨ k < d ∨ B < k ∨ 500 < B ∨ (s.size : Int) < k then 2 else 0
def covAns (s : ByteArray) (k d B : Int) : ByteArray × Int := if covErr s k d B = 0 then (cov s k.toNat d.toNat B.toNat, 0) else (⟨#[]⟩, covErr s k d B)
end Go.Proofs.Ytjnieekhagmdfaa

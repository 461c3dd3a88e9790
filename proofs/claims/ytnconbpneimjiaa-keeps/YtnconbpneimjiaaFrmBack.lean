/-
  P11, P12, plain: counts, copies, bodies, frames.
  P11, P12, plain: what is packed is played back; how short a copy of the content is.
  P11, P12, plain: a frame is read back; a record out of the content has a short one.
-/
import Derived.Test.YtnconbpneimjiaaPlainF
import Derived.Test.YtnconbpneimjiaaUnsWalk
import Derived.Test.YtnconbpneimjiaaBackMath
namespace Go.Proofs.Ytnconbpneimjiaa
open Go.PlainAid

/-! ### P11, P12, plain: counts, copies, bodies, frames. -/
/-! ### Counts -/
def ctB (n : Nat) : ByteArray := if n < 128 then le n 1 else le (128 + n % 128 + 256 * (n / 128)) 2
theorem ctB_one {n : Nat} (h : n < 128) : ctB n = le n 1 := by unfold ctB; rw [if_pos h]
theorem ctB_two {n : Nat} (h : ¬ n < 128) : ctB n = le (128 + n % 128 + 256 * (n / 128)) 2 := by unfold ctB; rw [if_neg h]
theorem ctB_size (n : Nat) : 1 ≤ (ctB n).size ∧ (ctB n).size ≤ 2 := by
  unfold ctB
  split <;> rw [le_size] <;> omega

/-! ### Copies -/
/-- How many bytes from p on are as those that stand d ahead. -/
def mlT (s : ByteArray) (d : Nat) : Nat → Nat → Nat
  | 0, _ => 0
  | f + 1, p => if btn s p = btn s (p - d) then mlT s d f (p + 1) + 1 else 0
def mlen (s : ByteArray) (d p : Nat) : Nat := mlT s d (s.size - p) p
theorem mlT_le (s : ByteArray) (d : Nat) : ∀ f p, mlT s d f p ≤ f := by
  intro f
  induction f with
  | zero => intro p; exact Nat.le_refl _
  | succ f ih =>
    intro p
    rw [mlT]
    split
    · have := ih (p + 1); omega
    · omega
theorem mlen_le (s : ByteArray) (d p : Nat) : mlen s d p ≤ s.size - p := mlT_le s d _ p
theorem mlT_spec (s : ByteArray) (d : Nat) : ∀ f p, (∀ i, i < mlT s d f p → btn s (p + i) = btn s (p + i - d)) ∧ (mlT s d f p < f → btn s (p + mlT s d f p) ≠ btn s (p + mlT s d f p - d)) := by
  intro f
  induction f with
  | zero => intro p; exact ⟨fun i hi => by simp [mlT] at hi, fun h => by simp [mlT] at h⟩
  | succ f ih =>
    intro p
    rw [mlT]
    split
    · rename_i h
      obtain ⟨h1, h2⟩ := ih (p + 1)
      refine ⟨fun i hi => ?_, fun hl => ?_⟩
      · cases i with
        | zero => exact h
        | succ i =>
          have := h1 i (by omega)
          rw [show p + (i + 1) = p + 1 + i from by omega]; exact this
      · have := h2 (by omega)
        rw [show p + (mlT s d f (p + 1) + 1) = p + 1 + mlT s d f (p + 1) from by omega]; exact this
    · rename_i h
      exact ⟨fun i hi => by omega, fun _ => h⟩
theorem mlen_same (s : ByteArray) (d p i : Nat) (h : i < mlen s d p) : btn s (p + i) = btn s (p + i - d) := (mlT_spec s d _ p).1 i h
theorem mlen_stop (s : ByteArray) (d p : Nat) (h : p + mlen s d p < s.size) : btn s (p + mlen s d p) ≠ btn s (p + mlen s d p - d) := (mlT_spec s d _ p).2 (by unfold mlen at h; omega)
theorem mlen_uniq {s : ByteArray} {d p n : Nat} (h1 : p + n ≤ s.size) (h2 : ∀ i, i < n → btn s (p + i) = btn s (p + i - d)) (h3 : p + n < s.size → btn s (p + n) ≠ btn s (p + n - d)) : mlen s d p = n := by
  have hl := mlen_le s d p
  rcases Nat.lt_trichotomy (mlen s d p) n with c | c | c
  · exact absurd (h2 _ c) (mlen_stop s d p (by omega))
  · exact c
  · exact absurd (mlen_same s d p n c) (h3 (by omega))
/-- The longest copy that could begin at a place, of the distances up to d: its length, its distance. -/
def lgTo (s : ByteArray) (p : Nat) : Nat → Nat × Nat
  | 0 => (0, 0)
  | d + 1 => if (lgTo s p d).1 < mlen s (d + 1) p then (mlen s (d + 1) p, d + 1) else lgTo s p d
theorem lgTo_le (s : ByteArray) (p d : Nat) : (lgTo s p d).1 ≤ s.size - p ∧ (lgTo s p d).2 ≤ d := by
  induction d with
  | zero => exact ⟨by simp [lgTo], by simp [lgTo]⟩
  | succ d ih =>
    rw [lgTo]
    have := mlen_le s (d + 1) p
    split
    · exact ⟨this, Nat.le_refl _⟩
    · exact ⟨ih.1, by omega⟩
/-- The longest is one, and none is longer, and none that is as long is nearer. -/
theorem lgTo_spec (s : ByteArray) (p d : Nat) : (∀ e, 1 ≤ e → e ≤ d → mlen s e p ≤ (lgTo s p d).1) ∧ ((lgTo s p d).1 = 0 ∨ (1 ≤ (lgTo s p d).2 ∧ mlen s (lgTo s p d).2 p = (lgTo s p d).1 ∧ ∀ e, 1 ≤ e → e < (lgTo s p d).2 → mlen s e p < (lgTo s p d).1)) := by
  induction d with
  | zero => exact ⟨fun e h1 h2 => by omega, .inl rfl⟩
  | succ d ih =>
    rw [lgTo]
    split
    · rename_i h
      refine ⟨fun e h1 h2 => ?_, .inr ⟨by simp, rfl, fun e h1 h2 => ?_⟩⟩
      · rcases Nat.lt_or_ge e (d + 1) with c | c
        · have := ih.1 e h1 (by omega); simp only; omega
        · obtain rfl : e = d + 1 := by omega
          exact Nat.le_refl _
      · have := ih.1 e h1 (by simp only at h2; omega)
        simp only; omega
    · rename_i h
      refine ⟨fun e h1 h2 => ?_, ih.2⟩
      rcases Nat.lt_or_ge e (d + 1) with c | c
      · exact ih.1 e h1 (by omega)
      · obtain rfl : e = d + 1 := by omega
        omega

/-! ### Bodies -/
/-- The loose bytes, as they stand in a body. -/
def looB (t s : ByteArray) : ByteArray :=
  if (sqAns t s).2 = 0 ∧ (ctB (sqAns t s).1.size).size + (sqAns t s).1.size < s.size then ctB s.size ++ ⟨#[1]⟩ ++ ctB (sqAns t s).1.size ++ (sqAns t s).1 else ctB s.size ++ ⟨#[0]⟩ ++ s
/-- Loose bytes, copies, how many: on from a place. -/
def bodS (all : ByteArray) : Nat → Nat → ByteArray → ByteArray → Nat → Nat → ByteArray × ByteArray × Nat
  | 0, _, lo, co, n, _ => (lo, co, n)
  | f + 1, p, lo, co, n, ah =>
    if p < all.size then
      if (lgTo all p p).1 < 4 then bodS all f (p + 1) (lo ++ all.extract p (p + 1)) co n (ah + 1)
      else bodS all f (p + (lgTo all p p).1) lo (co ++ ctB ah ++ ctB ((lgTo all p p).1 - 4) ++ ctB (lgTo all p p).2) (n + 1) 0
    else (lo, co, n)
def bodA (c r : ByteArray) : ByteArray × ByteArray × Nat := bodS (c ++ r) (r.size + 1) c.size ⟨#[]⟩ ⟨#[]⟩ 0 0
def enBody (t c r : ByteArray) : ByteArray := looB t (bodA c r).1 ++ ctB (bodA c r).2.2 ++ (bodA c r).2.1
/-- A frame's head behind its two first bytes. -/
def enRest (f r : ByteArray) : ByteArray := le (num f 3 2) 2 ++ f.extract (f.size - 4) f.size ++ le r.size 2 ++ le (wSum r) 4
def enFrm (f r : ByteArray) : ByteArray :=
  if (enBody (pAns f).2.1 (pAns f).2.2.1 r).size < r.size then ⟨#[70, 1]⟩ ++ enRest f r ++ enBody (pAns f).2.1 (pAns f).2.2.1 r else ⟨#[70, 0]⟩ ++ enRest f r ++ r
/-- What Encode answers. -/
def enAns (f r : ByteArray) : ByteArray × Int := if 500 < r.size then (⟨#[]⟩, 1) else if pOkB f = false then (⟨#[]⟩, 6) else (enFrm f r, 0)

/-! ### Reading a body -/
/-- The count at a place, and the place behind it; -1: there is none. -/
def ctAt (s : ByteArray) (at' : Int) : Nat × Int :=
  if at' < 0 ∨ (s.size : Int) ≤ at' then (0, -1)
  else if btn s at'.toNat < 128 then (btn s at'.toNat, at' + 1)
  else if s.size ≤ at'.toNat + 1 ∨ btn s (at'.toNat + 1) < 1 ∨ 127 < btn s (at'.toNat + 1) then (0, -1)
  else (btn s at'.toNat - 128 + 128 * btn s (at'.toNat + 1), at' + 2)
theorem ctAt_bd (s : ByteArray) (a : Int) : (ctAt s a).1 ≤ 16383 ∧ ((ctAt s a).2 = -1 ∨ (a + 1 ≤ (ctAt s a).2 ∧ (ctAt s a).2 ≤ (s.size : Int) ∧ 0 ≤ a)) := by
  unfold ctAt
  split
  · exact ⟨by simp, .inl rfl⟩
  · have hb := btn_lt s a.toNat
    split
    · exact ⟨by simp only; omega, .inr ⟨by simp, by simp only; omega, by omega⟩⟩
    · split
      · exact ⟨by simp, .inl rfl⟩
      · exact ⟨by simp only; omega, .inr ⟨by simp only; omega, by simp only; omega, by omega⟩⟩
/-- The loose bytes of a body, and the place behind them; -1: there are none such. -/
def lsAns (t b : ByteArray) : ByteArray × Int :=
  if (ctAt b 0).2 < 0 ∨ (b.size : Int) ≤ (ctAt b 0).2 ∨ 1 < btn b (ctAt b 0).2.toNat then (⟨#[]⟩, -1)
  else if btn b (ctAt b 0).2.toNat = 0 then
    if (b.size : Int) - ((ctAt b 0).2 + 1) < ((ctAt b 0).1 : Int) then (⟨#[]⟩, -1) else (b.extract ((ctAt b 0).2.toNat + 1) ((ctAt b 0).2.toNat + 1 + (ctAt b 0).1), (ctAt b 0).2 + 1 + (ctAt b 0).1)
  else if (ctAt b ((ctAt b 0).2 + 1)).2 < 0 ∨ (b.size : Int) - (ctAt b ((ctAt b 0).2 + 1)).2 < ((ctAt b ((ctAt b 0).2 + 1)).1 : Int) then (⟨#[]⟩, -1)
  else if (usAns t (b.extract (ctAt b ((ctAt b 0).2 + 1)).2.toNat ((ctAt b ((ctAt b 0).2 + 1)).2.toNat + (ctAt b ((ctAt b 0).2 + 1)).1)) ((ctAt b 0).1 : Int)).2 = 0 then
    ((usAns t (b.extract (ctAt b ((ctAt b 0).2 + 1)).2.toNat ((ctAt b ((ctAt b 0).2 + 1)).2.toNat + (ctAt b ((ctAt b 0).2 + 1)).1)) ((ctAt b 0).1 : Int)).1, (ctAt b ((ctAt b 0).2 + 1)).2 + (ctAt b ((ctAt b 0).2 + 1)).1)
  else (⟨#[]⟩, -1)
/-- So many bytes of a copy laid behind. -/
def cpy (all : ByteArray) (d : Nat) : Nat → ByteArray
  | 0 => all
  | k + 1 => cpy all d k ++ strN [btn (cpy all d k) ((cpy all d k).size - d)]
theorem cpy_size (all : ByteArray) (d k : Nat) : (cpy all d k).size = all.size + k := by
  induction k with
  | zero => rfl
  | succ k ih => rw [cpy, ByteArray.size_append, ih, strN_size]; simp; omega
/-- So many copies played: the place behind, what there is, the loose bytes that are left. -/
def plS (b : ByteArray) (lim : Nat) : Nat → Int → ByteArray → ByteArray → Option (Int × ByteArray × ByteArray)
  | 0, a, all, lo => some (a, all, lo)
  | i + 1, a, all, lo =>
    if (ctAt b (ctAt b (ctAt b a).2).2).2 < 0 ∨ lo.size < (ctAt b a).1 then none
    else if (ctAt b (ctAt b (ctAt b a).2).2).1 < 1 ∨ all.size + (ctAt b a).1 < (ctAt b (ctAt b (ctAt b a).2).2).1 ∨ lim < all.size + (ctAt b a).1 + (ctAt b (ctAt b a).2).1 then none
    else plS b lim i (ctAt b (ctAt b (ctAt b a).2).2).2 (cpy (all ++ lo.extract 0 (ctAt b a).1) (ctAt b (ctAt b (ctAt b a).2).2).1 ((ctAt b (ctAt b a).2).1 + 4)) (lo.extract (ctAt b a).1 lo.size)
/-- The record of a packed body. -/
def plAns (t c b : ByteArray) (size : Nat) : Option ByteArray :=
  match plS b (c.size + size) (ctAt b (lsAns t b).2).1 (ctAt b (lsAns t b).2).2 c (lsAns t b).1 with
  | none => none
  | some (a, all, lo) => if a = (b.size : Int) ∧ (all ++ lo).size = c.size + size then some ((all ++ lo).extract c.size (all ++ lo).size) else none
/-! ### Reading a frame -/
def hdB (g : ByteArray) : Bool := decide (14 ≤ g.size ∧ btn g 0 = 70 ∧ btn g 1 ≤ 1 ∧ num g 8 2 ≤ 500)
/-- The record of a frame's body. -/
def dcBody (f g : ByteArray) : Option ByteArray :=
  if btn g 1 = 1 then plAns (pAns f).2.1 (pAns f).2.2.1 (g.extract 14 g.size) (num g 8 2) else if g.size = 14 + num g 8 2 then some (g.extract 14 g.size) else none
/-- What Decode answers. -/
def dcAns (f g : ByteArray) : ByteArray × Int :=
  if 1000 < g.size then (⟨#[]⟩, 1) else if pOkB f = false then (⟨#[]⟩, 6) else if hdB g = false then (⟨#[]⟩, 7) else if num g 2 2 ≠ num f 3 2 then (⟨#[]⟩, 8)
  else if g.extract 4 8 ≠ f.extract (f.size - 4) f.size then (⟨#[]⟩, 9)
  else match dcBody f g with
    | none => (⟨#[]⟩, 7)
    | some r => if wSum r = num g 10 4 then (r, 0) else (⟨#[]⟩, 10)

/-! ### P11, P12, plain: what is packed is played back; how short a copy of the content is. -/
theorem emp_app (x : ByteArray) : (⟨#[]⟩ : ByteArray) ++ x = x := by apply ByteArray.ext; simp
theorem app_emp (x : ByteArray) : x ++ (⟨#[]⟩ : ByteArray) = x := by apply ByteArray.ext; simp
theorem emp_size : (⟨#[]⟩ : ByteArray).size = 0 := rfl
theorem ext_self (s : ByteArray) (a : Nat) (h : a ≤ s.size) : s.extract a a = ⟨#[]⟩ :=
  text_ext (by rw [ext_size _ _ _ h, emp_size]; omega) (fun i hi => by rw [ext_size _ _ _ h] at hi; omega)

/-! ### Counts are read -/
theorem ctAt_val (s : ByteArray) (a n : Nat) (hn : n ≤ 16383) (h : ∀ i, i < (ctB n).size → btn s (a + i) = btn (ctB n) i) (hs : a + (ctB n).size ≤ s.size) : ctAt s (a : Int) = (n, (a : Int) + ((ctB n).size : Int)) := by
  unfold ctAt
  rw [Int.toNat_natCast]
  by_cases c : n < 128
  · have hz : (ctB n).size = 1 := by rw [ctB_one c, le_size]
    have h0 := h 0 (by omega)
    rw [ctB_one c, le_btn _ _ _ (by omega)] at h0
    have e0 : btn s a = n := by simpa [Nat.mod_eq_of_lt (show n < 256 by omega)] using h0
    rw [if_neg (by omega), e0, if_pos c, hz]
    rfl
  · have hz : (ctB n).size = 2 := by rw [ctB_two c, le_size]
    have h0 := h 0 (by omega)
    have h1 := h 1 (by omega)
    rw [ctB_two c, le_btn _ _ _ (by omega)] at h0 h1
    rw [Nat.pow_zero, Nat.div_one, Nat.add_zero] at h0
    rw [Nat.pow_one] at h1
    have e0 : btn s a = 128 + n % 128 := by omega
    have e1 : btn s (a + 1) = n / 128 := by omega
    rw [if_neg (by omega), e0, if_neg (by omega), e1, if_neg (by omega), hz]
    refine Prod.ext ?_ rfl
    simp only
    omega
theorem ctAt_app (A R : ByteArray) (n : Nat) (hn : n ≤ 16383) : ctAt (A ++ (ctB n ++ R)) (A.size : Int) = (n, (A.size : Int) + ((ctB n).size : Int)) := by
  refine ctAt_val _ _ _ hn (fun i hi => ?_) (by rw [ByteArray.size_append, ByteArray.size_append]; omega)
  rw [btn_app, if_neg (by omega), btn_app, if_pos (by omega)]
  congr 1; omega

/-! ### The body's parts, one after the other -/
theorem bodS_acc (all : ByteArray) : ∀ f p lo co n ah, bodS all f p lo co n ah = (lo ++ (bodS all f p ⟨#[]⟩ ⟨#[]⟩ 0 ah).1, co ++ (bodS all f p ⟨#[]⟩ ⟨#[]⟩ 0 ah).2.1, n + (bodS all f p ⟨#[]⟩ ⟨#[]⟩ 0 ah).2.2) := by
  intro f
  induction f with
  | zero => intro p lo co n ah; simp only [bodS, app_emp, Nat.add_zero]
  | succ f ih =>
    intro p lo co n ah
    simp only [bodS]
    split
    · split
      · rw [ih (p + 1) (lo ++ all.extract p (p + 1)), ih (p + 1) (⟨#[]⟩ ++ all.extract p (p + 1)), emp_app, emp_app, ByteArray.append_assoc, Nat.zero_add]
      · rw [ih (p + (lgTo all p p).1) lo (co ++ ctB ah ++ ctB ((lgTo all p p).1 - 4) ++ ctB (lgTo all p p).2) (n + 1) 0, ih (p + (lgTo all p p).1) ⟨#[]⟩ (⟨#[]⟩ ++ ctB ah ++ ctB ((lgTo all p p).1 - 4) ++ ctB (lgTo all p p).2) (0 + 1) 0]
        simp only [emp_app, ByteArray.append_assoc, Nat.add_assoc, Nat.zero_add]
    · simp only [app_emp, Nat.add_zero]
theorem cpy_is {all : ByteArray} {d p : Nat} (hd : 1 ≤ d) (hdp : d ≤ p) : ∀ k, p + k ≤ all.size → (∀ i, i < k → btn all (p + i) = btn all (p + i - d)) → cpy (all.extract 0 p) d k = all.extract 0 (p + k) := by
  intro k
  induction k with
  | zero => intro _ _; rfl
  | succ k ih =>
    intro hk h
    have e := ih (by omega) (fun i hi => h i (by omega))
    rw [cpy, e]
    have hs : (all.extract 0 (p + k)).size = p + k := by rw [ext_size _ _ _ (by omega)]; omega
    have hb : btn (all.extract 0 (p + k)) (p + k - d) = btn all (p + k) := by
      rw [btn_ext _ _ _ _ (by omega) (by omega), Nat.zero_add, h k (by omega)]
    rw [hs, hb]
    have hb2 := btn_lt all (p + k)
    refine text_ext (by rw [ByteArray.size_append, hs, strN_size, ext_size _ _ _ (by omega)]; simp; omega) (fun i hi => ?_)
    rw [ByteArray.size_append, hs, strN_size] at hi
    simp only [List.length_cons, List.length_nil] at hi
    have hr : btn (all.extract 0 (p + (k + 1))) i = btn all i := by rw [btn_ext _ _ _ _ (by omega) (by omega), Nat.zero_add]
    rw [hr, btn_app, hs]
    by_cases c : i < p + k
    · rw [if_pos c, btn_ext _ _ _ _ (by omega) (by omega), Nat.zero_add]
    · obtain rfl : i = p + k := by omega
      rw [if_neg c, Nat.sub_self, strN_btn _ (fun x hx => by simp at hx; omega)]
      rfl

/-- What was made is played. -/
theorem play_main {all : ByteArray} (hall : all.size ≤ 1000) : ∀ f p ah A b, all.size - p < f → p ≤ all.size → ah ≤ p → b = A ++ (bodS all f p ⟨#[]⟩ ⟨#[]⟩ 0 ah).2.1 →
    ∃ E L, plS b all.size (bodS all f p ⟨#[]⟩ ⟨#[]⟩ 0 ah).2.2 (A.size : Int) (all.extract 0 (p - ah)) (all.extract (p - ah) p ++ (bodS all f p ⟨#[]⟩ ⟨#[]⟩ 0 ah).1) = some ((b.size : Int), E, L) ∧ E ++ L = all := by
  intro f
  induction f with
  | zero => intro p ah A b h; omega
  | succ f ih =>
    intro p ah A b hf hp hah hb
    have hlg := lgTo_le all p p
    have hsp := lgTo_spec all p p
    simp only [bodS] at hb ⊢
    by_cases c0 : p < all.size
    · rw [if_pos c0] at hb ⊢
      by_cases c1 : (lgTo all p p).1 < 4
      · rw [if_pos c1] at hb ⊢
        rw [bodS_acc] at hb ⊢
        simp only [emp_app, Nat.zero_add] at hb ⊢
        have := ih (p + 1) (ah + 1) A b (by omega) (by omega) (by omega) hb
        rw [show p + 1 - (ah + 1) = p - ah from by omega] at this
        rw [← ext_ext all (show p - ah ≤ p by omega) (show p ≤ p + 1 by omega), ByteArray.append_assoc] at this
        exact this
      · rw [if_neg c1] at hb ⊢
        generalize hq : lgTo all p p = q at *
        obtain ⟨len, dist⟩ := q
        simp only at hlg hsp c1 hb ⊢
        rw [bodS_acc] at hb ⊢
        simp only [emp_app, Nat.zero_add] at hb ⊢
        obtain ⟨d1, d2, _⟩ := hsp.2.resolve_left (by omega)
        have hml : ∀ i, i < len → btn all (p + i) = btn all (p + i - dist) := fun i hi => mlen_same all dist p i (by omega)
        generalize hX : bodS all f (p + len) ⟨#[]⟩ ⟨#[]⟩ 0 0 = X at *
        have hih := ih (p + len) 0 (A ++ ctB ah ++ ctB (len - 4) ++ ctB dist) b (by omega) (by omega) (by omega) (by rw [hX, hb]; simp only [ByteArray.append_assoc])
        rw [hX] at hih
        rw [Nat.sub_zero, ext_self _ _ (by omega), emp_app] at hih
        have r1 : ctAt b (A.size : Int) = (ah, (A.size : Int) + ((ctB ah).size : Int)) := by
          rw [hb]; simp only [ByteArray.append_assoc]; exact ctAt_app A _ ah (by omega)
        have r2 : ctAt b ((A.size : Int) + ((ctB ah).size : Int)) = (len - 4, (A.size : Int) + ((ctB ah).size : Int) + ((ctB (len - 4)).size : Int)) := by
          have := ctAt_app (A ++ ctB ah) (ctB dist ++ X.2.1) (len - 4) (by omega)
          rw [ByteArray.size_append, Int.natCast_add] at this
          rw [hb]; simp only [ByteArray.append_assoc] at this ⊢; exact this
        have r3 : ctAt b ((A.size : Int) + ((ctB ah).size : Int) + ((ctB (len - 4)).size : Int)) = (dist, (A.size : Int) + ((ctB ah).size : Int) + ((ctB (len - 4)).size : Int) + ((ctB dist).size : Int)) := by
          have := ctAt_app (A ++ ctB ah ++ ctB (len - 4)) X.2.1 dist (by omega)
          rw [ByteArray.size_append, ByteArray.size_append, Int.natCast_add, Int.natCast_add] at this
          rw [hb]; simp only [ByteArray.append_assoc] at this ⊢; exact this
        have hw : (all.extract (p - ah) p).size = ah := by rw [ext_size _ _ _ (by omega)]; omega
        have hw0 : (all.extract 0 (p - ah)).size = p - ah := by rw [ext_size _ _ _ (by omega)]; omega
        have hl0 : (all.extract (p - ah) p ++ X.1).extract 0 ah = all.extract (p - ah) p := by
          have := ByteArray.extract_append_eq_left (a := all.extract (p - ah) p) (b := X.1) (i := ah) hw.symm
          exact this
        have hl1 : (all.extract (p - ah) p ++ X.1).extract ah (all.extract (p - ah) p ++ X.1).size = X.1 := by
          have := ext_app_right (all.extract (p - ah) p) X.1 (i := 0) (j := X.1.size) (Nat.le_refl _)
          rw [hw, Nat.add_zero, ByteArray.extract_zero_size] at this
          rw [ByteArray.size_append, hw]; exact this
        rw [Nat.add_comm 1, plS]
        rw [r1]
        simp only
        rw [r2]
        simp only
        rw [r3]
        simp only
        have hcA := (ctB_size ah).1
        rw [if_neg (by rw [ByteArray.size_append, hw]; omega), if_neg (by rw [hw0]; omega), hl0, hl1, ext_ext all (by omega) (by omega), show len - 4 + 4 = len from by omega, cpy_is d1 hlg.2 len (by omega) hml]
        have hsz : ((A ++ ctB ah ++ ctB (len - 4) ++ ctB dist).size : Int) = (A.size : Int) + ((ctB ah).size : Int) + ((ctB (len - 4)).size : Int) + ((ctB dist).size : Int) := by
          simp only [ByteArray.size_append]; omega
        rw [hsz] at hih
        exact hih
    · rw [if_neg c0] at hb ⊢
      rw [app_emp] at hb
      subst hb
      refine ⟨_, _, rfl, ?_⟩
      rw [app_emp, ext_ext all (by omega) (by omega), show p = all.size from by omega, ByteArray.extract_zero_size]
/-- How many copies, loose bytes: bounded. -/
theorem bodS_bd (all : ByteArray) : ∀ f p ah, p ≤ all.size → (bodS all f p ⟨#[]⟩ ⟨#[]⟩ 0 ah).1.size + 4 * (bodS all f p ⟨#[]⟩ ⟨#[]⟩ 0 ah).2.2 ≤ all.size - p ∧ (bodS all f p ⟨#[]⟩ ⟨#[]⟩ 0 ah).2.1.size ≤ 6 * (bodS all f p ⟨#[]⟩ ⟨#[]⟩ 0 ah).2.2 := by
  intro f
  induction f with
  | zero => intro p ah hp; simp only [bodS, emp_size]; omega
  | succ f ih =>
    intro p ah hp
    have hlg := lgTo_le all p p
    simp only [bodS]
    split
    · split
      · rw [bodS_acc]
        have := ih (p + 1) (ah + 1) (by omega)
        simp only [emp_app, ByteArray.size_append, Nat.zero_add, ext_size _ _ _ (show p + 1 ≤ all.size by omega)]
        omega
      · rw [bodS_acc]
        have := ih (p + (lgTo all p p).1) 0 (by omega)
        have h1 := ctB_size ah
        have h2 := ctB_size ((lgTo all p p).1 - 4)
        have h3 := ctB_size (lgTo all p p).2
        simp only [emp_app, ByteArray.size_append]
        omega
    · simp only [emp_size]; omega

/-! ### P11, P12, plain: a frame is read back; a record out of the content has a short one. -/
theorem sq_back {t x : ByteArray} (h : (sqAns t x).2 = 0) : usAns t (sqAns t x).1 (x.size : Int) = (x, 0) := by
  unfold sqAns at h
  split at h
  · simp at h
  · split at h
    · simp at h
    · split at h
      · simp at h
      · rename_i h1 h2 h3
        have b := back_math (t := t) (x := x) (by simpa using h2) (by simpa using h3) (by omega)
        rw [b.1]
        exact b.2.2.2
theorem looB_plain {t s : ByteArray} (h : ¬ ((sqAns t s).2 = 0 ∧ (ctB (sqAns t s).1.size).size + (sqAns t s).1.size < s.size)) : looB t s = ctB s.size ++ ⟨#[0]⟩ ++ s := by unfold looB; rw [if_neg h]
theorem looB_strm {t s : ByteArray} (h : (sqAns t s).2 = 0 ∧ (ctB (sqAns t s).1.size).size + (sqAns t s).1.size < s.size) : looB t s = ctB s.size ++ ⟨#[1]⟩ ++ ctB (sqAns t s).1.size ++ (sqAns t s).1 := by unfold looB; rw [if_pos h]
theorem one_size (x : UInt8) : (⟨#[x]⟩ : ByteArray).size = 1 := rfl
theorem looB_le (t s : ByteArray) : (looB t s).size ≤ (ctB s.size).size + 1 + s.size := by
  unfold looB
  split
  · simp only [ByteArray.size_append, one_size]; omega
  · simp only [ByteArray.size_append, one_size]; omega

theorem lsAns_loo (t lo R : ByteArray) (hlo : lo.size ≤ 500) : lsAns t (looB t lo ++ R) = (lo, ((looB t lo).size : Int)) := by
  have hk := ctB_size lo.size
  by_cases h : (sqAns t lo).2 = 0 ∧ (ctB (sqAns t lo).1.size).size + (sqAns t lo).1.size < lo.size
  · rw [looB_strm h]
    have hus := sq_back h.1
    generalize (sqAns t lo).1 = st at *
    have hm := ctB_size st.size
    have r1 : ctAt (ctB lo.size ++ ⟨#[1]⟩ ++ ctB st.size ++ st ++ R) 0 = (lo.size, ((ctB lo.size).size : Int)) := by
      have := ctAt_app ⟨#[]⟩ (⟨#[1]⟩ ++ ctB st.size ++ st ++ R) lo.size (by omega)
      rw [emp_size, emp_app] at this
      simp only [ByteArray.append_assoc] at this ⊢
      simpa using this
    have r2 : ctAt (ctB lo.size ++ ⟨#[1]⟩ ++ ctB st.size ++ st ++ R) (((ctB lo.size).size : Int) + 1) = (st.size, ((ctB lo.size).size : Int) + 1 + ((ctB st.size).size : Int)) := by
      have := ctAt_app (ctB lo.size ++ ⟨#[1]⟩) (st ++ R) st.size (by omega)
      rw [ByteArray.size_append, one_size] at this
      simp only [ByteArray.append_assoc] at this ⊢
      simpa using this
    have hsz : (ctB lo.size ++ ⟨#[1]⟩ ++ ctB st.size ++ st ++ R).size = (ctB lo.size).size + 1 + (ctB st.size).size + st.size + R.size := by simp only [ByteArray.size_append, one_size]
    have hbt : btn (ctB lo.size ++ ⟨#[1]⟩ ++ ctB st.size ++ st ++ R) (ctB lo.size).size = 1 := by
      simp only [ByteArray.append_assoc]
      rw [btn_app, if_neg (by omega), Nat.sub_self, btn_app, if_pos (by rw [one_size]; omega)]
      rfl
    have hex : (ctB lo.size ++ ⟨#[1]⟩ ++ ctB st.size ++ st ++ R).extract ((ctB lo.size).size + 1 + (ctB st.size).size) ((ctB lo.size).size + 1 + (ctB st.size).size + st.size) = st := by
      have e := ext_app_right (ctB lo.size ++ ⟨#[1]⟩ ++ ctB st.size) (st ++ R) (i := 0) (j := st.size) (by rw [ByteArray.size_append]; omega)
      rw [ByteArray.extract_append_eq_left rfl, Nat.add_zero, ByteArray.size_append, ByteArray.size_append, one_size, ← ByteArray.append_assoc] at e
      exact e
    unfold lsAns
    generalize ctB lo.size ++ ⟨#[1]⟩ ++ ctB st.size ++ st ++ R = b at *
    rw [r1]
    simp only [Int.toNat_natCast]
    rw [hbt, if_neg (by omega), if_neg (by omega), r2]
    simp only
    rw [if_neg (by omega), show (((ctB lo.size).size : Int) + 1 + ((ctB st.size).size : Int)).toNat = (ctB lo.size).size + 1 + (ctB st.size).size from by omega, hex, hus, if_pos rfl]
    refine Prod.ext rfl ?_
    simp only [ByteArray.size_append, one_size]
    omega
  · rw [looB_plain h]
    have r1 : ctAt (ctB lo.size ++ ⟨#[0]⟩ ++ lo ++ R) 0 = (lo.size, ((ctB lo.size).size : Int)) := by
      have := ctAt_app ⟨#[]⟩ (⟨#[0]⟩ ++ lo ++ R) lo.size (by omega)
      rw [emp_size, emp_app] at this
      simp only [ByteArray.append_assoc] at this ⊢
      simpa using this
    have hsz : (ctB lo.size ++ ⟨#[0]⟩ ++ lo ++ R).size = (ctB lo.size).size + 1 + lo.size + R.size := by simp only [ByteArray.size_append, one_size]
    have hbt : btn (ctB lo.size ++ ⟨#[0]⟩ ++ lo ++ R) (ctB lo.size).size = 0 := by
      simp only [ByteArray.append_assoc]
      rw [btn_app, if_neg (by omega), Nat.sub_self, btn_app, if_pos (by rw [one_size]; omega)]
      rfl
    have hex : (ctB lo.size ++ ⟨#[0]⟩ ++ lo ++ R).extract ((ctB lo.size).size + 1) ((ctB lo.size).size + 1 + lo.size) = lo := by
      have e := ext_app_right (ctB lo.size ++ ⟨#[0]⟩) (lo ++ R) (i := 0) (j := lo.size) (by rw [ByteArray.size_append]; omega)
      rw [ByteArray.extract_append_eq_left rfl, Nat.add_zero, ByteArray.size_append, one_size, ← ByteArray.append_assoc] at e
      exact e
    unfold lsAns
    generalize ctB lo.size ++ ⟨#[0]⟩ ++ lo ++ R = b at *
    rw [r1]
    simp only [Int.toNat_natCast]
    rw [hbt, if_neg (by omega), if_pos rfl, if_neg (by omega), hex]
    refine Prod.ext rfl ?_
    simp only [ByteArray.size_append, one_size]
    omega

theorem play_body (t c r : ByteArray) (hc : c.size ≤ 500) (hr : r.size ≤ 500) : plAns t c (enBody t c r) r.size = some r := by
  have hall : (c ++ r).size = c.size + r.size := ByteArray.size_append
  have hbd := bodS_bd (c ++ r) (r.size + 1) c.size 0 (by omega)
  have hm := fun A b => play_main (all := c ++ r) (by omega) (r.size + 1) c.size 0 A b (by omega) (by omega) (by omega)
  have hA : bodA c r = bodS (c ++ r) (r.size + 1) c.size ⟨#[]⟩ ⟨#[]⟩ 0 0 := rfl
  unfold enBody
  rw [← hA] at hbd hm
  generalize bodA c r = X at *
  obtain ⟨lo, co, n⟩ := X
  simp only at hbd hm ⊢
  have hls := lsAns_loo t lo (ctB n ++ co) (by omega)
  rw [← ByteArray.append_assoc] at hls
  have hct := ctAt_app (looB t lo) co n (by omega)
  rw [← ByteArray.append_assoc] at hct
  obtain ⟨E, L, h1, h2⟩ := hm (looB t lo ++ ctB n) (looB t lo ++ ctB n ++ co) rfl
  rw [Nat.sub_zero, ByteArray.extract_append_eq_left rfl, ext_self _ _ (by omega), emp_app, hall, show ((looB t lo ++ ctB n).size : Int) = ((looB t lo).size : Int) + ((ctB n).size : Int) from by rw [ByteArray.size_append, Int.natCast_add]] at h1
  unfold plAns
  rw [hls, hct]
  simp only
  rw [h1]
  simp only
  rw [h2, hall, if_pos ⟨by simp, rfl⟩]
  congr 1
  have e := ext_app_right c r (i := 0) (j := r.size) (Nat.le_refl _)
  rw [Nat.add_zero, ByteArray.extract_zero_size] at e
  exact e

/-! ### Frames -/
theorem enRest_size (f r : ByteArray) (h : 4 ≤ f.size) : (enRest f r).size = 12 := by
  unfold enRest
  simp only [ByteArray.size_append, le_size, ext_size _ _ _ (Nat.le_refl f.size)]
  omega
/-- Two bytes, a rest of twelve, a body: its parts. -/
theorem frm_parts (f r x : ByteArray) (k : UInt8) (hf : 4 ≤ f.size) (hr : r.size ≤ 500) :
    (⟨#[70, k]⟩ ++ enRest f r ++ x).size = 14 + x.size ∧ btn (⟨#[70, k]⟩ ++ enRest f r ++ x) 0 = 70 ∧ btn (⟨#[70, k]⟩ ++ enRest f r ++ x) 1 = k.toNat ∧
    num (⟨#[70, k]⟩ ++ enRest f r ++ x) 2 2 = num f 3 2 ∧ (⟨#[70, k]⟩ ++ enRest f r ++ x).extract 4 8 = f.extract (f.size - 4) f.size ∧
    num (⟨#[70, k]⟩ ++ enRest f r ++ x) 8 2 = r.size ∧ num (⟨#[70, k]⟩ ++ enRest f r ++ x) 10 4 = wSum r ∧ (⟨#[70, k]⟩ ++ enRest f r ++ x).extract 14 (⟨#[70, k]⟩ ++ enRest f r ++ x).size = x := by
  have h0 : (⟨#[70, k]⟩ : ByteArray).size = 2 := rfl
  have hR := enRest_size f r hf
  have hsz : (⟨#[70, k]⟩ ++ enRest f r ++ x).size = 14 + x.size := by rw [ByteArray.size_append, ByteArray.size_append, hR, h0]
  have hF : (f.extract (f.size - 4) f.size).size = 4 := by rw [ext_size _ _ _ (Nat.le_refl _)]; omega
  have hn := num_lt f 3 2
  have hb : ∀ i, i < 12 → btn (⟨#[70, k]⟩ ++ enRest f r ++ x) (2 + i) = btn (enRest f r) i := fun i hi => by
    rw [ByteArray.append_assoc, btn_app, if_neg (by omega), btn_app, if_pos (by omega)]
    congr 1; omega
  have e1 : ∀ i, i < 2 → btn (enRest f r) i = btn (le (num f 3 2) 2) i := fun i hi => by
    unfold enRest
    simp only [ByteArray.append_assoc]
    rw [btn_app, if_pos (by rw [le_size]; omega)]
  have e2 : ∀ i, i < 4 → btn (enRest f r) (2 + i) = btn (f.extract (f.size - 4) f.size) i := fun i hi => by
    unfold enRest
    simp only [ByteArray.append_assoc]
    rw [btn_app, if_neg (by rw [le_size]; omega), le_size, btn_app, if_pos (by omega)]
    congr 1; omega
  have e3 : ∀ i, i < 2 → btn (enRest f r) (6 + i) = btn (le r.size 2) i := fun i hi => by
    unfold enRest
    simp only [ByteArray.append_assoc]
    rw [btn_app, if_neg (by rw [le_size]; omega), le_size, btn_app, if_neg (by omega), hF, btn_app, if_pos (by rw [le_size]; omega)]
    congr 1; omega
  have e4 : ∀ i, i < 4 → btn (enRest f r) (8 + i) = btn (le (wSum r) 4) i := fun i hi => by
    unfold enRest
    simp only [ByteArray.append_assoc]
    rw [btn_app, if_neg (by rw [le_size]; omega), le_size, btn_app, if_neg (by omega), hF, btn_app, if_neg (by rw [le_size]; omega), le_size]
    congr 1; omega
  refine ⟨hsz, ?_, ?_, ?_, ?_, ?_, ?_, ?_⟩
  · rw [ByteArray.append_assoc, btn_app, if_pos (by omega)]; rfl
  · rw [ByteArray.append_assoc, btn_app, if_pos (by omega)]; rfl
  · exact num_le _ 2 (fun i hi => by rw [hb i (by omega), e1 i hi]) hn
  · refine text_ext (by rw [ext_size _ _ _ (by omega), hF]) (fun i hi => ?_)
    rw [ext_size _ _ _ (by omega)] at hi
    rw [btn_ext _ _ _ _ (by omega) (by omega), show 4 + i = 2 + (2 + i) from by omega, hb _ (by omega), e2 i (by omega)]
  · exact num_le _ 2 (fun i hi => by rw [show 8 + i = 2 + (6 + i) from by omega, hb _ (by omega), e3 i hi]) (by omega)
  · exact num_le _ 4 (fun i hi => by rw [show 10 + i = 2 + (8 + i) from by omega, hb _ (by omega), e4 i hi]) (wSum_lt r)
  · have e := ext_app_right (⟨#[70, k]⟩ ++ enRest f r) x (i := 0) (j := x.size) (Nat.le_refl _)
    rw [ByteArray.size_append, hR, h0, Nat.add_zero, ByteArray.extract_zero_size] at e
    rw [hsz]
    exact e
theorem pOk_con {f : ByteArray} (h : pOk f) : (pAns f).2.2.1.size ≤ 500 ∧ 13 ≤ f.size := by
  have hb := pOk_big h
  rw [pAns_yes h]
  have h6 := h.2.2.2.2.2.1
  have h5 := h.2.2.2.2.1
  have hE : pE f = pT f + 2 + pL f := rfl
  refine ⟨?_, hb.1⟩
  show (f.extract (pT f + 2) (pE f)).size ≤ 500
  rw [ext_size _ _ _ (by omega)]; omega
/-- A record comes back. -/
theorem dec_enc_frm {f r : ByteArray} (h : pOk f) (hr : r.size ≤ 500) : dcAns f (enFrm f r) = (r, 0) ∧ (enFrm f r).size ≤ 14 + r.size ∧ 14 ≤ (enFrm f r).size := by
  obtain ⟨hc, hf⟩ := pOk_con h
  have hk : pOkB f = true := (pOkB_iff f).2 h
  unfold enFrm
  split
  · rename_i hlt
    obtain ⟨p1, p2, p3, p4, p5, p6, p7, p8⟩ := frm_parts f r (enBody (pAns f).2.1 (pAns f).2.2.1 r) 1 (by omega) hr
    have hbd := play_body (pAns f).2.1 (pAns f).2.2.1 r hc hr
    generalize ⟨#[70, 1]⟩ ++ enRest f r ++ enBody (pAns f).2.1 (pAns f).2.2.1 r = g at *
    refine ⟨?_, by omega, by omega⟩
    have h1 : btn g 1 = 1 := p3
    have hh : hdB g = true := by unfold hdB; rw [decide_eq_true_iff]; exact ⟨by omega, p2, by omega, by omega⟩
    have hdc : dcBody f g = some r := by unfold dcBody; rw [if_pos h1, p8, p6, hbd]
    unfold dcAns
    rw [if_neg (by omega), if_neg (by rw [hk]; simp), if_neg (by rw [hh]; simp), if_neg (by rw [p4]; simp), if_neg (by rw [p5]; simp), hdc]
    simp only
    rw [if_pos p7.symm]
  · obtain ⟨p1, p2, p3, p4, p5, p6, p7, p8⟩ := frm_parts f r r 0 (by omega) hr
    generalize ⟨#[70, 0]⟩ ++ enRest f r ++ r = g at *
    refine ⟨?_, by omega, by omega⟩
    have h1 : btn g 1 = 0 := p3
    have hh : hdB g = true := by unfold hdB; rw [decide_eq_true_iff]; exact ⟨by omega, p2, by omega, by omega⟩
    have hdc : dcBody f g = some r := by unfold dcBody; rw [if_neg (by omega), if_pos (by omega), p8]
    unfold dcAns
    rw [if_neg (by omega), if_neg (by rw [hk]; simp), if_neg (by rw [hh]; simp), if_neg (by rw [p4]; simp), if_neg (by rw [p5]; simp), hdc]
    simp only
    rw [if_pos p7.symm]

/-! ### A record out of the content -/
theorem short_body (t c : ByteArray) {i k : Nat} (h : i + k ≤ c.size) (hk : 4 ≤ k) (hc : c.size ≤ 500) : (enBody t c (c.extract i (i + k))).size ≤ 8 := by
  obtain ⟨m, rfl⟩ : ∃ m, k = m + 1 := ⟨k - 1, by omega⟩
  have hrs : (c.extract i (i + (m + 1))).size = (m + 1) := by rw [ext_size _ _ _ h]; omega
  have hall : (c ++ c.extract i (i + (m + 1))).size = c.size + (m + 1) := by rw [ByteArray.size_append, hrs]
  have hml : mlen (c ++ c.extract i (i + (m + 1))) (c.size - i) c.size = (m + 1) := by
    refine mlen_uniq (by omega) (fun j hj => ?_) (fun hj => by omega)
    rw [btn_app, if_neg (by omega), btn_app, if_pos (by omega), btn_ext _ _ _ _ (by omega) h]
    congr 1; omega
  have hsp := lgTo_spec (c ++ c.extract i (i + (m + 1))) c.size c.size
  have hle := lgTo_le (c ++ c.extract i (i + (m + 1))) c.size c.size
  have h1 := hsp.1 (c.size - i) (by omega) (by omega)
  rw [hml] at h1
  have hlen : (lgTo (c ++ c.extract i (i + (m + 1))) c.size c.size).1 = (m + 1) := by omega
  have hd := hle.2
  have hA : bodA c (c.extract i (i + (m + 1))) = (⟨#[]⟩, ctB 0 ++ ctB ((m + 1) - 4) ++ ctB (lgTo (c ++ c.extract i (i + (m + 1))) c.size c.size).2, 1) := by
    unfold bodA
    rw [hrs, bodS, if_pos (by omega), hlen, if_neg (by omega), bodS, if_neg (by omega), emp_app]
  unfold enBody
  rw [hA]
  simp only
  have hlo : (looB t ⟨#[]⟩).size ≤ 2 := by
    have := looB_le t ⟨#[]⟩
    rw [emp_size] at this
    have e : (ctB 0).size = 1 := by rw [ctB_one (by omega), le_size]
    omega
  have q1 : (ctB 1).size = 1 := by rw [ctB_one (by omega), le_size]
  have q0 : (ctB 0).size = 1 := by rw [ctB_one (by omega), le_size]
  have q2 := ctB_size ((m + 1) - 4)
  have q3 := ctB_size (lgTo (c ++ c.extract i (i + (m + 1))) c.size c.size).2
  simp only [ByteArray.size_append]
  omega
/-- Its frame is short. -/
theorem short_frm {f : ByteArray} (h : pOk f) {i k : Nat} (hik : i + k ≤ (pAns f).2.2.1.size) : (enFrm f ((pAns f).2.2.1.extract i (i + k))).size ≤ 22 := by
  obtain ⟨hc, hf⟩ := pOk_con h
  have hrs : ((pAns f).2.2.1.extract i (i + k)).size = k := by rw [ext_size _ _ _ hik]; omega
  by_cases hk : 8 < k
  · have hs := short_body (pAns f).2.1 (pAns f).2.2.1 hik (by omega) hc
    unfold enFrm
    rw [if_pos (by omega), ByteArray.size_append, ByteArray.size_append, enRest_size _ _ (by omega)]
    have h0 : (⟨#[70, 1]⟩ : ByteArray).size = 2 := rfl
    omega
  · have := (dec_enc_frm h (r := (pAns f).2.2.1.extract i (i + k)) (by omega)).2.1
    omega
end Go.Proofs.Ytnconbpneimjiaa

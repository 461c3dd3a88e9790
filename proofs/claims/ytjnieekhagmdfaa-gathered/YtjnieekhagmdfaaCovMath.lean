/-
  P7, plain: what a content is: its size, its end, the pieces in it.
-/
import Derived.Test.YtjnieekhagmdfaaCovDefs
namespace Go.Proofs.Ytjnieekhagmdfaa
open Go.PlainAid

theorem lastN_app2 (a b : ByteArray) {n : Nat} (h : n ≤ b.size) : lastN (a ++ b) n = lastN b n := by
  have hsz : (a ++ b).size = a.size + b.size := ByteArray.size_append
  refine text_ext (by rw [lastN_size _ (by omega), lastN_size _ h]) (fun i hi => ?_)
  rw [lastN_size _ (by omega)] at hi
  unfold lastN
  rw [btn_ext _ _ _ _ (by omega) (Nat.le_refl _), btn_ext _ _ _ _ (by omega) (Nat.le_refl _), btn_app, if_neg (by omega)]
  congr 1; omega
theorem lastN_lastN (c : ByteArray) {k n : Nat} (h1 : k ≤ n) (h2 : n ≤ c.size) : lastN (lastN c n) k = lastN c k := by
  have hs := lastN_size c h2
  refine text_ext (by rw [lastN_size _ (by omega), lastN_size _ (by omega)]) (fun i hi => ?_)
  rw [lastN_size _ (by omega)] at hi
  have e1 : btn (lastN (lastN c n) k) i = btn (lastN c n) (n - k + i) := by
    rw [lastN, btn_ext _ _ _ _ (by omega) (Nat.le_refl _), hs]
  have e2 : btn (lastN c n) (n - k + i) = btn c (c.size - n + (n - k + i)) := by
    rw [lastN, btn_ext _ _ _ _ (by omega) (Nat.le_refl _)]
  have e3 : btn (lastN c k) i = btn c (c.size - k + i) := by
    rw [lastN, btn_ext _ _ _ _ (by omega) (Nat.le_refl _)]
  rw [e1, e2, e3]
  congr 1; omega
theorem ext_app_right (a b : ByteArray) {i j : Nat} (h : j ≤ b.size) : (a ++ b).extract (a.size + i) (a.size + j) = b.extract i j := by
  have hsz : (a ++ b).size = a.size + b.size := ByteArray.size_append
  refine text_ext (by rw [ext_size _ _ _ (by omega), ext_size _ _ _ h]; omega) (fun y hy => ?_)
  rw [ext_size _ _ _ (by omega)] at hy
  rw [btn_ext _ _ _ _ (by omega) (by omega), btn_ext _ _ _ _ (by omega) h, btn_app, if_neg (by omega)]
  congr 1; omega
theorem ext_app_left (a b : ByteArray) {i j : Nat} (h : j ≤ a.size) : (a ++ b).extract i j = a.extract i j := by
  have hsz : (a ++ b).size = a.size + b.size := ByteArray.size_append
  refine text_ext (by rw [ext_size _ _ _ (by omega), ext_size _ _ _ h]) (fun y hy => ?_)
  rw [ext_size _ _ _ (by omega)] at hy
  rw [btn_ext _ _ _ _ (by omega) (by omega), btn_ext _ _ _ _ (by omega) h, btn_app, if_pos (by omega)]
theorem ext_of_ext (s : ByteArray) {a k i j : Nat} (h : j ≤ k) (hk : a + k ≤ s.size) : (s.extract a (a + k)).extract i j = s.extract (a + i) (a + j) := by
  have hs : (s.extract a (a + k)).size = k := by rw [ext_size _ _ _ hk]; omega
  refine text_ext (by rw [ext_size _ _ _ (by omega), ext_size _ _ _ (by omega)]; omega) (fun y hy => ?_)
  rw [ext_size _ _ _ (by omega)] at hy
  rw [btn_ext _ _ _ _ (by omega) (by omega), btn_ext _ _ _ _ (by omega) hk, btn_ext _ _ _ _ (by omega) (by omega)]
  congr 1; omega

/-- A window without a score: all its pieces are taken. -/
theorem sc_zero {s : ByteArray} {d N : Nat} {tk : Nat → Bool} {i x : Nat} (hx : i + x ≤ N) (h : scTo s d N tk i x = 0) : ∀ y, y < x → tk (fs s d (i + y)) = true := by
  have hterm : ∀ x, i + x ≤ N → scTo s d N tk i x = 0 → ∀ y, y < x → prv s d (i + y) < (i : Int) → tk (fs s d (i + y)) = true := by
    intro x
    induction x with
    | zero => intro _ _ y hy; omega
    | succ x ih =>
      intro hx h y hy hp
      rw [scTo] at h
      rcases Nat.lt_or_ge y x with c | c
      · exact ih (by omega) (by omega) y c hp
      · obtain rfl : y = x := by omega
        rw [if_pos hp] at h
        have h2 : hw s d N tk (fs s d (i + y)) = 0 := by omega
        unfold hw at h2
        have := tmTo_pos (s := s) (d := d) (n := N) (a := i + y) (by omega)
        cases hk : tk (fs s d (i + y))
        · rw [hk, if_neg (by simp)] at h2; omega
        · rfl
  intro y
  induction y using Nat.strongRecOn with
  | ind y ih =>
    intro hy
    by_cases hp : prv s d (i + y) < (i : Int)
    · exact hterm x hx h y hy hp
    · obtain ⟨p1, p2, p3, p4⟩ := prv_spec s d (i + y)
      obtain ⟨p, hpe⟩ := Int.eq_ofNat_of_zero_le (show 0 ≤ prv s d (i + y) by omega)
      have e := p3 (by omega)
      rw [hpe, Int.toNat_natCast] at e
      have := ih (p - i) (by omega) (by omega)
      rw [show i + (p - i) = p from by omega, fs_eq.2 e] at this
      exact this
theorem sc_first {s : ByteArray} {d N : Nat} {i x : Nat} (h1 : 1 ≤ x) (hx : i + x ≤ N) : 0 < scTo s d N (fun _ => false) i x := by
  rcases Nat.eq_zero_or_pos (scTo s d N (fun _ => false) i x) with h | h
  · have := sc_zero hx h 0 (by omega)
    simp at this
  · exact h

/-- A content that is made of windows, so far. -/
structure Made (s : ByteArray) (k d : Nat) (tk : Nat → Bool) (c : ByteArray) : Prop where
  start : (c = ⟨#[]⟩ ∧ tk = fun _ => false) ∨ (k ≤ c.size ∧ ∃ a, a + k ≤ s.size ∧ lastN c k = s.extract a (a + k))
  taken : ∀ j, tk j = true → ∃ i p, fs s d i = j ∧ p + d ≤ c.size ∧ c.extract p (p + d) = pc s d i
theorem Made.step {s : ByteArray} {k d : Nat} {tk : Nat → Bool} {c : ByteArray} (h : Made s k d tk c) (hd : 1 ≤ d) (hk : d ≤ k) {a : Nat} (ha : a + k ≤ s.size) : Made s k d (tkTo s d tk a (k - d + 1)) (s.extract a (a + k) ++ c) := by
  have hw : (s.extract a (a + k)).size = k := by rw [ext_size _ _ _ ha]; omega
  have hsz : (s.extract a (a + k) ++ c).size = k + c.size := by rw [ByteArray.size_append, hw]
  refine ⟨.inr ⟨by omega, ?_⟩, fun j hj => ?_⟩
  · rcases h.start with ⟨rfl, _⟩ | ⟨h1, b, h2, h3⟩
    · refine ⟨a, ha, ?_⟩
      have e0 : (⟨#[]⟩ : ByteArray).size = 0 := rfl
      have e1 := lastN_app (s.extract a (a + k)) ⟨#[]⟩ (n := k) (by omega) (by omega)
      rw [e1, e0, Nat.sub_zero, lastN_all (by omega)]
      exact text_ext (by rw [ByteArray.size_append, e0]; omega) (fun i hi => by rw [ByteArray.size_append, e0] at hi; rw [btn_app, if_pos (by omega)])
    · exact ⟨b, h2, by rw [lastN_app2 _ _ h1, h3]⟩
  · rcases (tkTo_iff s d tk a (k - d + 1) j).1 hj with q | ⟨y, hy, hf⟩
    · obtain ⟨i, p, h1, h2, h3⟩ := h.taken j q
      refine ⟨i, k + p, h1, by omega, ?_⟩
      have e := ext_app_right (s.extract a (a + k)) c (i := p) (j := p + d) h2
      rw [hw] at e
      rw [Nat.add_assoc, e, h3]
    · refine ⟨a + y, y, hf, by omega, ?_⟩
      rw [ext_app_left _ _ (by omega), ext_of_ext s (by omega) ha, ← Nat.add_assoc]
      rfl
/-- What a content is. -/
structure Cont (s : ByteArray) (k d B : Nat) (r : ByteArray) : Prop where
  ge : k ≤ r.size
  le : r.size ≤ B
  last : ∃ a, a + k ≤ s.size ∧ lastN r k = s.extract a (a + k)
  all : r.size < B → ∀ i, i + d ≤ s.size → ∃ p, p + d ≤ r.size ∧ r.extract p (p + d) = s.extract i (i + d)
theorem cont_F {s : ByteArray} {k d B : Nat} (hd : 1 ≤ d) (hk : d ≤ k) (hks : k ≤ s.size) (hB : k ≤ B) : ∀ f tk c, Made s k d tk c → B - c.size < f → Cont s k d B (covF s k d (s.size - d + 1) B f tk c) := by
  intro f
  induction f with
  | zero => intro tk c _ h; omega
  | succ f ih =>
    intro tk c hM hf
    rw [covF]
    by_cases h1 : c.size < B
    · rw [if_pos h1]
      have hat := bsTo_lt s d (s.size - d + 1) tk (k - d + 1) (s.size - k + 1) (by omega)
      by_cases h2 : (bsTo s d (s.size - d + 1) tk (k - d + 1) (s.size - k + 1)).2 = 0
      · rw [if_pos h2]
        have hz : ∀ i, i < s.size - k + 1 → scTo s d (s.size - d + 1) tk i (k - d + 1) = 0 := fun i hi => by
          have := bsTo_max s d (s.size - d + 1) tk (k - d + 1) (s.size - k + 1) i hi
          omega
        rcases hM.start with ⟨rfl, rfl⟩ | ⟨g1, g2⟩
        · have := sc_first (s := s) (d := d) (N := s.size - d + 1) (i := 0) (x := k - d + 1) (by omega) (by omega)
          have := hz 0 (by omega)
          omega
        · refine ⟨g1, by omega, g2, fun _ i hi => ?_⟩
          obtain ⟨a, y, ha, hy, hay⟩ : ∃ a y, a < s.size - k + 1 ∧ y < k - d + 1 ∧ a + y = i := by
            rcases Nat.lt_or_ge i (s.size - k + 1) with q | q
            · exact ⟨i, 0, q, by omega, by omega⟩
            · exact ⟨s.size - k, i - (s.size - k), by omega, by omega, by omega⟩
          have ht := sc_zero (by omega) (hz a ha) y hy
          rw [hay] at ht
          obtain ⟨i', p, q1, q2, q3⟩ := hM.taken _ ht
          exact ⟨p, q2, by rw [q3]; exact fs_eq.1 q1⟩
      · rw [if_neg h2]
        have ha : (bsTo s d (s.size - d + 1) tk (k - d + 1) (s.size - k + 1)).1 + k ≤ s.size := by omega
        refine ih _ _ (hM.step hd hk ha) ?_
        rw [ByteArray.size_append, ext_size _ _ _ ha]
        omega
    · rw [if_neg h1]
      rcases hM.start with ⟨rfl, _⟩ | ⟨g1, a, g2, g3⟩
      · have e0 : (⟨#[]⟩ : ByteArray).size = 0 := rfl
        omega
      · have hs := lastN_size c (show B ≤ c.size by omega)
        exact ⟨by omega, by omega, ⟨a, g2, by rw [lastN_lastN c hB (by omega), g3]⟩, fun h => by omega⟩
theorem cont {s : ByteArray} {k d B : Nat} (hd : 1 ≤ d) (hk : d ≤ k) (hks : k ≤ s.size) (hB : k ≤ B) : Cont s k d B (cov s k d B) := by
  unfold cov
  exact cont_F hd hk hks hB _ _ _ ⟨.inl ⟨rfl, rfl⟩, fun j hj => by simp at hj⟩ (by show B - 0 < B + 1; omega)
end Go.Proofs.Ytjnieekhagmdfaa

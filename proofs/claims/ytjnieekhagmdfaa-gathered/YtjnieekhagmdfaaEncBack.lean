/-
  P5, P6, plain: what is read is what was written; what is read as a stream is written just so again.
-/
import Derived.Test.YtjnieekhagmdfaaDecMath
import Derived.Test.YtjnieekhagmdfaaEncOk
import Derived.Test.YtjnieekhagmdfaaPadMath
namespace Go.Proofs.Ytjnieekhagmdfaa
open Go.PlainAid

/-! ### Bytes and texts -/
theorem strN_size (l : List Nat) : (strN l).size = l.length := by unfold strN; rw [strOfNums_size, ints_len]
theorem strN_btn (l : List Nat) (h : ∀ x ∈ l, x < 256) (i : Nat) : btn (strN l) i = l.getD i 0 := by
  by_cases hi : i < l.length
  · have := bt_str (ints l) (fun x hx => by
      simp only [ints, List.mem_map] at hx
      obtain ⟨b, hb, rfl⟩ := hx
      have := h b hb
      omega) i (by rw [ints_len]; exact hi)
    unfold btn
    rw [show bt (strN l) i = _ from this]
    simp only [ints, List.getD_eq_getElem?_getD, List.getElem?_map, List.getElem?_eq_getElem hi, Option.map_some, Option.getD_some]
    omega
  · unfold btn
    rw [bt_end _ (by rw [strN_size]; omega), List.getD_eq_getElem?_getD, List.getElem?_eq_none (by omega)]
    rfl
theorem text_ext {a b : ByteArray} (hs : a.size = b.size) (h : ∀ i, i < a.size → btn a i = btn b i) : a = b := by
  apply ByteArray.ext
  apply Array.ext hs
  intro i h1 h2
  have h1' : i < a.size := h1
  have h2' : i < b.size := h2
  have e := h i h1'
  have e1 := get_btn a i h1'
  have e2 := get_btn b i h2'
  have : (a[i]'h1').toNat = (b[i]'h2').toNat := by omega
  exact UInt8.toNat_inj.1 this

/-! ### The closing 1 -/
theorem tzF_spec : ∀ (f x : Nat), 0 < x → x < 2 ^ f → tzF f x < f ∧ x / 2 ^ tzF f x % 2 = 1 ∧ ∀ i, i < tzF f x → x / 2 ^ i % 2 = 0 := by
  intro f
  induction f with
  | zero => intro x h1 h2; simp at h2; omega
  | succ f ih =>
    intro x h1 h2
    rw [tzF]
    by_cases c : x % 2 = 0
    · rw [if_pos c]
      obtain ⟨a, b, d⟩ := ih (x / 2) (by omega) (by rw [Nat.pow_succ] at h2; omega)
      refine ⟨by omega, ?_, fun i hi => ?_⟩
      · rw [Nat.pow_succ, Nat.mul_comm, ← Nat.div_div_eq_div_mul]; exact b
      · cases i with
        | zero => simpa using c
        | succ i => rw [Nat.pow_succ, Nat.mul_comm, ← Nat.div_div_eq_div_mul]; exact d i (by omega)
    · rw [if_neg c]
      exact ⟨by omega, by simp; omega, fun i hi => by omega⟩
theorem tzF_uniq {x j : Nat} (h1 : x < 256) (hj : x / 2 ^ j % 2 = 1) (hz : ∀ i, i < j → x / 2 ^ i % 2 = 0) : tzF 8 x = j := by
  have hx : 0 < x := by
    rcases Nat.eq_zero_or_pos x with c | c
    · subst c; simp at hj
    · exact c
  obtain ⟨a, b, c⟩ := tzF_spec 8 x hx h1
  rcases Nat.lt_trichotomy (tzF 8 x) j with d | d | d
  · have := hz _ d; omega
  · exact d
  · have := c _ d; omega
theorem bitF_at (s : ByteArray) (k i : Nat) (hi : i < 8) : bitF s (8 * k + i) = btn s k / 2 ^ (7 - i) % 2 := by
  unfold bitF
  rw [show (8 * k + i) / 8 = k from by omega, show (8 * k + i) % 8 = i from by omega]
theorem val_byte (s : ByteArray) (k : Nat) : valF (bitF s) (8 * k) 8 = btn s k := by
  refine valF_digB (btn s k) 8 (by have := btn_lt s k; omega) _ _ fun i hi => ?_
  rw [bitF_at s k i hi, digB_get _ _ _ hi]
/-- A text whose last byte has the closing 1 is what its bits are packed into. -/
theorem pack_unpack {s : ByteArray} (h : 1 ≤ endS s) : strN (packL (bitsOf (bitF s) 0 (endS s - 1))) = s := by
  unfold endS at h
  by_cases c : s.size = 0 ∨ btn s (s.size - 1) = 0
  · rw [if_pos c] at h; omega
  · have hE : endS s = 8 * s.size - tzF 8 (btn s (s.size - 1)) := by unfold endS; rw [if_neg c]
    have hsz : 0 < s.size := by omega
    obtain ⟨z1, z2, z3⟩ := tzF_spec 8 (btn s (s.size - 1)) (by omega) (by have := btn_lt s (s.size - 1); omega)
    generalize tzF 8 (btn s (s.size - 1)) = z at *
    have hlen : (bitsOf (bitF s) 0 (endS s - 1)).length = 8 * (s.size - 1) + (7 - z) := by rw [bitsOf_len]; omega
    have hpad : ∀ i, i < 8 * s.size → bl (padL (bitsOf (bitF s) 0 (endS s - 1))) i = bitF s i := by
      intro i hi
      rcases Nat.lt_trichotomy i (8 * (s.size - 1) + (7 - z)) with d | d | d
      · rw [padL_lo _ (by omega)]
        unfold bl
        rw [bitsOf_get _ _ _ _ (by omega), Nat.zero_add]
      · have e := padL_one (bitsOf (bitF s) 0 (endS s - 1))
        rw [hlen] at e
        rw [d, e, bitF_at s (s.size - 1) (7 - z) (by omega), show 7 - (7 - z) = z from by omega, z2]
      · rw [padL_hi _ (by omega)]
        obtain ⟨r, hr⟩ : ∃ r, i = 8 * (s.size - 1) + r := ⟨i - 8 * (s.size - 1), by omega⟩
        rw [hr, bitF_at s (s.size - 1) r (by omega), z3 (7 - r) (by omega)]
    have hn : (bitsOf (bitF s) 0 (endS s - 1)).length / 8 + 1 = s.size := by rw [hlen]; omega
    have hbyte : ∀ k, k < s.size → valF (bl (padL (bitsOf (bitF s) 0 (endS s - 1)))) (8 * k) 8 = btn s k := by
      intro k hk
      rw [← val_byte s k]
      exact valF_congr (fun i hi => hpad (8 * k + i) (by omega))
    have hpk : packL (bitsOf (bitF s) 0 (endS s - 1)) = (List.range s.size).map (btn s) := by
      unfold packL
      rw [hn]
      apply List.map_congr_left
      intro k hk
      exact hbyte k (List.mem_range.1 hk)
    rw [hpk]
    refine text_ext (by rw [strN_size]; simp) fun i hi => ?_
    rw [strN_size] at hi
    have hi' : i < s.size := by simpa using hi
    rw [strN_btn _ (fun x hx => by
      obtain ⟨j, _, rfl⟩ := List.mem_map.1 hx
      exact btn_lt s j)]
    simp [List.getD_eq_getElem?_getD, hi']
theorem packL_lt {B : List Nat} (hB : ∀ x ∈ B, x < 2) : ∀ x ∈ packL B, x < 256 := by
  intro x hx
  obtain ⟨k, _, rfl⟩ := List.mem_map.1 hx
  have := valF_lt (padL_lt hB) (8 * k) 8
  omega
theorem unpack_bit {B : List Nat} (hB : ∀ x ∈ B, x < 2) (i : Nat) (hi : i < 8 * (B.length / 8 + 1)) : bitF (strN (packL B)) i = bl (padL B) i := by
  have e : i = 8 * (i / 8) + i % 8 := by omega
  rw [e, bitF_at _ _ _ (by omega), strN_btn _ (packL_lt hB)]
  have hk : i / 8 < B.length / 8 + 1 := by omega
  have : (packL B).getD (i / 8) 0 = valF (bl (padL B)) (8 * (i / 8)) 8 := by
    simp [packL, List.getD_eq_getElem?_getD, hk]
  rw [this]
  exact valF_bit (padL_lt hB) (8 * (i / 8)) 8 (i % 8) (by omega)
theorem unpack_end {B : List Nat} (hB : ∀ x ∈ B, x < 2) : endS (strN (packL B)) = B.length + 1 := by
  have hsz : (strN (packL B)).size = B.length / 8 + 1 := by rw [strN_size]; simp [packL]
  have hl := btn_lt (strN (packL B)) (B.length / 8)
  have hbit : ∀ r, r < 8 → btn (strN (packL B)) (B.length / 8) / 2 ^ (7 - r) % 2 = bl (padL B) (8 * (B.length / 8) + r) := by
    intro r hr
    rw [← unpack_bit hB _ (by omega), bitF_at _ _ _ hr]
  have e1 : btn (strN (packL B)) (B.length / 8) / 2 ^ (7 - B.length % 8) % 2 = 1 := by
    rw [hbit _ (by omega), show 8 * (B.length / 8) + B.length % 8 = B.length from by omega, padL_one]
  have e2 : ∀ i, i < 7 - B.length % 8 → btn (strN (packL B)) (B.length / 8) / 2 ^ i % 2 = 0 := by
    intro i hi
    have := hbit (7 - i) (by omega)
    rw [show 7 - (7 - i) = i from by omega, padL_hi _ (by omega)] at this
    exact this
  have hz := tzF_uniq hl e1 e2
  have hne : btn (strN (packL B)) (B.length / 8) ≠ 0 := by
    intro q
    rw [q] at e1
    simp at e1
  unfold endS
  rw [hsz, show B.length / 8 + 1 - 1 = B.length / 8 from by omega, if_neg (by omega), hz]
  omega

/-! ### What is read as a stream is written just so again -/
theorem outT_get {t s : ByteArray} (n i : Nat) (hi : i < n) : btn (strN (outT t s n)) i = tOwn t (decT t s i).1 := by
  have hlt : ∀ n, ∀ x ∈ outT t s n, x < 256 := by
    intro n
    induction n with
    | zero => intro x hx; simp [outT] at hx
    | succ n ih =>
      intro x hx
      rw [outT, List.mem_append] at hx
      rcases hx with hx | hx
      · exact ih x hx
      · rw [List.mem_singleton] at hx; rw [hx]; exact tOwn_lt t _
  rw [strN_btn _ (hlt n)]
  clear hlt
  induction n with
  | zero => omega
  | succ n ih =>
    rw [outT, List.getD_eq_getElem?_getD, List.getElem?_append]
    rcases Nat.lt_or_ge i n with c | c
    · rw [if_pos (by rw [outT_len]; exact c), ← List.getD_eq_getElem?_getD]
      exact ih c
    · obtain rfl : i = n := by omega
      rw [if_neg (by rw [outT_len]; omega), outT_len]
      simp
theorem out_allSh {t s : ByteArray} (h : TOk t) (n : Nat) : allSh t (strN (outT t s n)) = true := by
  simp only [allSh, decide_eq_true_eq]
  intro i hi
  rw [strN_size, outT_len] at hi
  rw [outT_get n i hi]
  exact h.one _ (decT_lt h i)
theorem enc_dec {t s : ByteArray} (h : TOk t) {n : Nat} (h0 : (decT t s n).1 = 0) (c : Nat) (hc : c ≤ n) : encT t (strN (outT t s n)) c = ((decT t s (n - c)).1, bitsOf (bitF s) (decT t s (n - c)).2 ((decT t s n).2 - (decT t s (n - c)).2)) := by
  have hsz : (strN (outT t s n)).size = n := by rw [strN_size, outT_len]
  induction c with
  | zero => simp [encT, h0, bitsOf]
  | succ c ih =>
    have e := ih (by omega)
    have hm : n - c = (n - (c + 1)) + 1 := by omega
    rw [encT, e, hsz, show n - 1 - c = n - (c + 1) from by omega, outT_get n _ (by omega)]
    have hb := h.back (decT_lt (s := s) h (n - (c + 1))) (valF_lt (bitF_lt s) (decT t s (n - (c + 1))).2 (kOf (tNum t (decT t s (n - (c + 1))).1)))
    have hd : decT t s (n - c) = (tNum t (decT t s (n - (c + 1))).1 * 2 ^ kOf (tNum t (decT t s (n - (c + 1))).1) + valF (bitF s) (decT t s (n - (c + 1))).2 (kOf (tNum t (decT t s (n - (c + 1))).1)) - 64, (decT t s (n - (c + 1))).2 + kOf (tNum t (decT t s (n - (c + 1))).1)) := by
      conv => lhs; rw [hm]
      rfl
    have hmono := decT_mono (t := t) (s := s) (a := n - c) (b := n) (by omega)
    rw [hd] at hmono ⊢
    simp only at hmono ⊢
    rw [hb.2.2.1, hb.2.2.2, digB_valF (bitF_lt s), ← bitsOf_append]
    congr 2
    omega
theorem canon {t s : ByteArray} (h : TOk t) {n : Nat} (hr : rdOk t s n = true) : strN (packL (encB t (strN (outT t s n)))) = s := by
  simp only [rdOk, decide_eq_true_eq] at hr
  obtain ⟨h7, h0, he⟩ := hr
  have hsz : (strN (outT t s n)).size = n := by rw [strN_size, outT_len]
  have e := enc_dec h h0 n (Nat.le_refl _)
  have hb : encB t (strN (outT t s n)) = bitsOf (bitF s) 0 (endS s - 1) := by
    unfold encB
    rw [hsz, e, Nat.sub_self]
    show digB (valF (bitF s) 0 6) 6 ++ bitsOf (bitF s) 6 ((decT t s n).2 - 6) = _
    rw [digB_valF (bitF_lt s), show (6 : Nat) = 0 + 6 from rfl, ← bitsOf_append]
    congr 1
    omega
  rw [hb]
  exact pack_unpack (by omega)

/-! ### What was written is read -/
theorem dec_enc {t s : ByteArray} (h : TOk t) {x : ByteArray} (hx : ∀ j, j < x.size → 1 ≤ tShr t (btn x (x.size - 1 - j))) (i : Nat) (hi : i ≤ x.size) (hs : s = strN (packL (encB t x))) :
    decT t s i = ((encT t x (x.size - i)).1, (encB t x).length - (encT t x (x.size - i)).2.length) ∧ (encT t x (x.size - i)).2.length ≤ (encB t x).length ∧ ∀ j, j < (encT t x (x.size - i)).2.length → bl (encB t x) ((encB t x).length - (encT t x (x.size - i)).2.length + j) = bl (encT t x (x.size - i)).2 j := by
  have hbits : ∀ y ∈ encB t x, y < 2 := by
    intro y hy
    rcases List.mem_append.1 hy with hy | hy
    · exact digB_bit _ _ y hy
    · exact (encOk h x.size hx).bit y hy
  have hbf : ∀ j, j < (encB t x).length → bitF s j = bl (encB t x) j := by
    intro j hj
    rw [hs, unpack_bit hbits j (by omega), padL_lo _ hj]
  have hlen : (encB t x).length = 6 + (encT t x x.size).2.length := by unfold encB; rw [List.length_append, digB_len]
  induction i with
  | zero =>
    rw [Nat.sub_zero]
    refine ⟨?_, by omega, fun j hj => ?_⟩
    · have e : valF (bitF s) 0 6 = (encT t x x.size).1 := by
        refine valF_digB _ 6 (by have := (encOk h x.size hx).lt; omega) _ _ fun j hj => ?_
        rw [Nat.zero_add, hbf j (by omega)]
        unfold bl encB
        rw [List.getD_eq_getElem?_getD, List.getElem?_append_left (by rw [digB_len]; exact hj), ← List.getD_eq_getElem?_getD]
      show (valF (bitF s) 0 6, 6) = _
      rw [e, hlen]
      congr 1
      omega
    · rw [hlen, show 6 + (encT t x x.size).2.length - (encT t x x.size).2.length + j = 6 + j from by omega]
      unfold bl encB
      rw [List.getD_eq_getElem?_getD, List.getElem?_append_right (by rw [digB_len]; omega), digB_len, show 6 + j - 6 = j from by omega, ← List.getD_eq_getElem?_getD]
  | succ i ih =>
    obtain ⟨d1, d2, d3⟩ := ih (by omega)
    have hc : x.size - i = (x.size - (i + 1)) + 1 := by omega
    rw [hc] at d1 d2 d3
    have hE := encOk h (x.size - (i + 1)) (fun j hj => hx j (by omega))
    have hv := hx (x.size - (i + 1)) (by omega)
    obtain ⟨s1, s2, s3, s4, s5⟩ := h.st hv hE.lt
    rw [encT] at d1 d2 d3
    simp only at d1 d2 d3
    generalize btn x (x.size - 1 - (x.size - (i + 1))) = v at *
    generalize (encT t x (x.size - (i + 1))).2 = bs at *
    generalize (encT t x (x.size - (i + 1))).1 = a at *
    have hla : (stB t v a).length = stJ t v a := by unfold stB; rw [digB_len]
    rw [List.length_append, hla] at d1 d2 d3
    have hval : valF (bitF s) ((encB t x).length - (stJ t v a + bs.length)) (stJ t v a) = (64 + a) % 2 ^ stJ t v a := by
      refine valF_digB _ _ (Nat.mod_lt _ (Nat.two_pow_pos _)) _ _ fun j hj => ?_
      rw [hbf _ (by omega), d3 j (by omega)]
      have e2 : digB ((64 + a) % 2 ^ stJ t v a) (stJ t v a) = stB t v a := by
        unfold stB
        conv => rhs; rw [← Nat.div_add_mod (64 + a) (2 ^ stJ t v a), Nat.mul_comm]
        rw [digB_mod]
      rw [e2]
      unfold bl
      rw [List.getD_eq_getElem?_getD, List.getElem?_append_left (by rw [hla]; exact hj), ← List.getD_eq_getElem?_getD]
    refine ⟨?_, by omega, fun j hj => ?_⟩
    · show (tNum t (decT t s i).1 * 2 ^ kOf (tNum t (decT t s i).1) + valF (bitF s) (decT t s i).2 (kOf (tNum t (decT t s i).1)) - 64, (decT t s i).2 + kOf (tNum t (decT t s i).1)) = _
      rw [d1]
      simp only
      rw [s4, hval, s3]
      have := Nat.div_add_mod (64 + a) (2 ^ stJ t v a)
      rw [Nat.mul_comm] at this
      rw [this]
      have hj6 := s5
      congr 1
      · omega
      · omega
    · have e := d3 (stJ t v a + j) (by omega)
      rw [show (encB t x).length - bs.length + j = (encB t x).length - (stJ t v a + bs.length) + (stJ t v a + j) from by omega, e]
      unfold bl
      rw [List.getD_eq_getElem?_getD, List.getElem?_append_right (by rw [hla]; omega), hla, show stJ t v a + j - stJ t v a = j from by omega, ← List.getD_eq_getElem?_getD]
theorem round {t s : ByteArray} (h : TOk t) {x : ByteArray} (hx : allSh t x = true) (hs : s = strN (packL (encB t x))) : rdOk t s x.size = true ∧ strN (outT t s x.size) = x := by
  have hx' : ∀ j, j < x.size → 1 ≤ tShr t (btn x (x.size - 1 - j)) := by
    simp only [allSh, decide_eq_true_eq] at hx
    intro j hj
    exact hx _ (by omega)
  have hbits : ∀ y ∈ encB t x, y < 2 := by
    intro y hy
    rcases List.mem_append.1 hy with hy | hy
    · exact digB_bit _ _ y hy
    · exact (encOk h x.size hx').bit y hy
  constructor
  · obtain ⟨d1, _, _⟩ := dec_enc h hx' x.size (Nat.le_refl _) hs
    rw [Nat.sub_self] at d1
    have he : endS s = (encB t x).length + 1 := by rw [hs]; exact unpack_end hbits
    have hl : 6 ≤ (encB t x).length := by unfold encB; rw [List.length_append, digB_len]; omega
    simp only [rdOk, decide_eq_true_eq, d1, he]
    exact ⟨by omega, rfl, by simp [encT]⟩
  · refine text_ext (by rw [strN_size, outT_len]) fun i hi => ?_
    rw [strN_size, outT_len] at hi
    rw [outT_get _ i hi]
    obtain ⟨d1, _, _⟩ := dec_enc h hx' i (by omega) hs
    rw [d1, show x.size - i = (x.size - 1 - i) + 1 from by omega, encT]
    simp only
    have hE := encOk h (x.size - 1 - i) (fun j hj => hx' j (by omega))
    have hv := hx' (x.size - 1 - i) (by omega)
    rw [show x.size - 1 - (x.size - 1 - i) = i from by omega] at hv ⊢
    exact (h.st hv hE.lt).2.1
end Go.Proofs.Ytjnieekhagmdfaa

/-
  P8, P9, plain: numbers in bytes, files, what is read as one.
-/
import Derived.Test.YtjnieekhagmdfaaEncBack
import Derived.Test.YtjnieekhagmdfaaSumPlain
namespace Go.Proofs.Ytjnieekhagmdfaa
open Go.PlainAid

/-! ### Texts, byte by byte -/
theorem btn_app (a b : ByteArray) (i : Nat) : btn (a ++ b) i = if i < a.size then btn a i else btn b (i - a.size) := by
  by_cases h : i < (a ++ b).size
  · have e := get_btn (a ++ b) i h
    by_cases c : i < a.size
    · rw [if_pos c]
      have e2 := get_btn a i c
      rw [ByteArray.getElem_append_left c] at e
      omega
    · rw [if_neg c]
      have hs := h
      rw [ByteArray.size_append] at hs
      have e2 := get_btn b (i - a.size) (by omega)
      rw [ByteArray.getElem_append_right (by omega)] at e
      omega
  · have hs := h
    rw [ByteArray.size_append] at hs
    rw [if_neg (by omega)]
    unfold btn
    rw [bt_end _ (by omega), bt_end _ (by omega)]
theorem btn_ext (s : ByteArray) (a b i : Nat) (h : a + i < b) (hb : b ≤ s.size) : btn (s.extract a b) i = btn s (a + i) := by
  have hi : i < (s.extract a b).size := by rw [ByteArray.size_extract]; omega
  have e := get_btn (s.extract a b) i hi
  have e2 := get_btn s (a + i) (by omega)
  rw [ByteArray.getElem_extract hi] at e
  omega
theorem ext_size (s : ByteArray) (a b : Nat) (hb : b ≤ s.size) : (s.extract a b).size = b - a := by
  rw [ByteArray.size_extract]; omega
theorem ext_ext (s : ByteArray) {a b c : Nat} (h1 : a ≤ b) (h2 : b ≤ c) : s.extract a b ++ s.extract b c = s.extract a c := by
  rw [ByteArray.extract_append_extract, Nat.min_eq_left h1, Nat.max_eq_right h2]
theorem btn_congr {a b : ByteArray} (h : a = b) (i : Nat) : btn a i = btn b i := by rw [h]

/-! ### Numbers in bytes -/
def leL (n k : Nat) : List Nat := (List.range k).map fun i => n / 256 ^ i % 256
def le (n k : Nat) : ByteArray := strN (leL n k)
theorem leL_succ (n k : Nat) : leL n (k + 1) = leL n k ++ [n / 256 ^ k % 256] := by simp [leL, List.range_succ]
theorem leL_len (n k : Nat) : (leL n k).length = k := by simp [leL]
theorem leL_lt (n k : Nat) : ∀ x ∈ leL n k, x < 256 := by
  intro x hx
  simp only [leL, List.mem_map] at hx
  obtain ⟨i, _, rfl⟩ := hx
  exact Nat.mod_lt _ (by omega)
theorem le_size (n k : Nat) : (le n k).size = k := by unfold le; rw [strN_size, leL_len]
theorem le_btn (n k i : Nat) (h : i < k) : btn (le n k) i = n / 256 ^ i % 256 := by
  unfold le
  rw [strN_btn _ (leL_lt n k)]
  simp [leL, h]
/-- The number in k bytes from a place on. -/
def num (s : ByteArray) (a : Nat) : Nat → Nat
  | 0 => 0
  | k + 1 => num s a k + 256 ^ k * btn s (a + k)
theorem num_lt (s : ByteArray) (a k : Nat) : num s a k < 256 ^ k := by
  induction k with
  | zero => simp [num]
  | succ k ih =>
    have hb := btn_lt s (a + k)
    have h2 : 256 ^ k * btn s (a + k) ≤ 256 ^ k * 255 := Nat.mul_le_mul_left _ (by omega)
    rw [num, Nat.pow_succ]; omega
theorem num_front (s : ByteArray) (a k : Nat) : num s a (k + 1) = 256 * num s (a + 1) k + btn s a := by
  induction k with
  | zero => simp [num]
  | succ k ih =>
    rw [num, ih]
    conv => rhs; rw [num]
    rw [Nat.mul_add, Nat.pow_succ, show a + 1 + k = a + (k + 1) from by omega, ← Nat.mul_assoc, Nat.mul_comm 256 (256 ^ k)]
    omega
theorem num_congr {s r : ByteArray} {a b k : Nat} (h : ∀ i, i < k → btn s (a + i) = btn r (b + i)) : num s a k = num r b k := by
  induction k with
  | zero => rfl
  | succ k ih => rw [num, num, ih (fun i hi => h i (by omega)), h k (by omega)]
theorem num_ext (s : ByteArray) (a b : Nat) (h : a ≤ b) (hb : b ≤ s.size) : num (s.extract a b) 0 (b - a) = num s a (b - a) :=
  num_congr (fun i hi => by rw [Nat.zero_add]; exact btn_ext s a b i (by omega) hb)
theorem num_mod (n k : Nat) : ∀ s : ByteArray, ∀ a, (∀ i, i < k → btn s (a + i) = n / 256 ^ i % 256) → num s a k = n % 256 ^ k := by
  intro s a
  induction k with
  | zero => intro _; simp [num, Nat.mod_one]
  | succ k ih =>
    intro h
    rw [num, ih (fun i hi => h i (by omega)), h k (by omega), Nat.pow_succ, Nat.mod_mul]
theorem num_le (n k : Nat) {s : ByteArray} {a : Nat} (h : ∀ i, i < k → btn s (a + i) = btn (le n k) i) (hn : n < 256 ^ k) : num s a k = n := by
  rw [num_mod n k s a (fun i hi => by rw [h i hi, le_btn n k i hi]), Nat.mod_eq_of_lt hn]
theorem num_digit (s : ByteArray) (a : Nat) : ∀ k i, i < k → num s a k / 256 ^ i % 256 = btn s (a + i) := by
  intro k
  induction k with
  | zero => intro i h; omega
  | succ k ih =>
    intro i h
    have hlt := num_lt s a k
    have hb := btn_lt s (a + k)
    have hp : 0 < 256 ^ k := Nat.pow_pos (by omega)
    rw [num]
    rcases Nat.lt_or_ge i k with c | c
    · rw [← ih i c]
      obtain ⟨e, rfl⟩ : ∃ e, k = i + 1 + e := ⟨k - i - 1, by omega⟩
      have hpi : 0 < 256 ^ i := Nat.pow_pos (by omega)
      rw [show 256 ^ (i + 1 + e) * btn s (a + (i + 1 + e)) = 256 ^ i * (256 * (256 ^ e * btn s (a + (i + 1 + e)))) from by
        rw [Nat.pow_add, Nat.pow_succ]; simp only [Nat.mul_assoc]]
      rw [Nat.add_mul_div_left _ _ hpi, Nat.add_mul_mod_self_left]
    · obtain rfl : i = k := by omega
      rw [Nat.add_mul_div_left _ _ hp, Nat.div_eq_of_lt hlt, Nat.zero_add, Nat.mod_eq_of_lt hb]
theorem le_num (s : ByteArray) (a k : Nat) (h : a + k ≤ s.size) : le (num s a k) k = s.extract a (a + k) := by
  refine text_ext ?_ (fun i hi => ?_)
  · rw [le_size, ext_size _ _ _ h]; omega
  · rw [le_size] at hi
    rw [le_btn _ _ _ hi, num_digit s a k i hi, btn_ext s a (a + k) i (by omega) h]
theorem le_one (s : ByteArray) (a : Nat) (h : a < s.size) : le (btn s a) 1 = s.extract a (a + 1) := by
  have e := le_num s a 1 (by omega)
  rw [num, num] at e
  simpa using e

/-! ### Files -/
def mk3 : ByteArray := ⟨#[71, 68, 1]⟩
def wBody (id : Nat) (t c : ByteArray) : ByteArray := mk3 ++ le id 2 ++ le (t.size / 2) 1 ++ t ++ le c.size 2 ++ c
def wSum (s : ByteArray) : Nat := (sumTo s s.size).toNat
def wFile (id : Nat) (t c : ByteArray) : ByteArray := wBody id t c ++ le (wSum (wBody id t c)) 4
theorem wSum_int (s : ByteArray) : sumTo s s.size = (wSum s : Int) := by have := sumTo_bd s s.size; unfold wSum; omega
theorem wSum_lt (s : ByteArray) : wSum s < 4294967296 := by have := sumTo_bd s s.size; unfold wSum; omega
theorem mk3_size : mk3.size = 3 := rfl
theorem wBody_size (id : Nat) (t c : ByteArray) : (wBody id t c).size = 8 + t.size + c.size := by
  unfold wBody
  simp only [ByteArray.size_append, le_size, mk3_size]; omega
theorem wFile_size (id : Nat) (t c : ByteArray) : (wFile id t c).size = 12 + t.size + c.size := by
  unfold wFile
  rw [ByteArray.size_append, le_size, wBody_size]; omega
/-- What Write answers. -/
def wrAns (id : Int) (t c : ByteArray) : ByteArray × Int :=
  if 500 < c.size then (⟨#[]⟩, 1) else if id < 0 ∨ 65535 < id ∨ c.size = 0 then (⟨#[]⟩, 2) else if isTB t = false then (⟨#[]⟩, 3) else (wFile id.toNat t c, 0)

/-- Where the parts of a file would end. -/
def pT (f : ByteArray) : Nat := 6 + 2 * btn f 5
def pL (f : ByteArray) : Nat := num f (pT f) 2
def pE (f : ByteArray) : Nat := pT f + 2 + pL f
def pOk (f : ByteArray) : Prop := pT f + 2 ≤ f.size ∧ f.extract 0 3 = mk3 ∧ isTB (f.extract 6 (pT f)) = true ∧ 1 ≤ pL f ∧ pL f ≤ 500 ∧ f.size = pE f + 4 ∧ num f (pE f) 4 = wSum (f.extract 0 (pE f))
def pOkB (f : ByteArray) : Bool := decide (pT f + 2 ≤ f.size ∧ f.extract 0 3 = mk3 ∧ isTB (f.extract 6 (pT f)) = true ∧ 1 ≤ pL f ∧ pL f ≤ 500 ∧ f.size = pE f + 4 ∧ num f (pE f) 4 = wSum (f.extract 0 (pE f)))
theorem pOkB_iff (f : ByteArray) : pOkB f = true ↔ pOk f := decide_eq_true_iff
/-- What Parse answers. -/
def pAns (f : ByteArray) : Int × ByteArray × ByteArray × Int :=
  if pOkB f then ((num f 3 2 : Int), f.extract 6 (pT f), f.extract (pT f + 2) (pE f), 0) else (0, ⟨#[]⟩, ⟨#[]⟩, 6)
theorem pAns_yes {f : ByteArray} (h : pOk f) : pAns f = ((num f 3 2 : Int), f.extract 6 (pT f), f.extract (pT f + 2) (pE f), 0) := by unfold pAns; rw [if_pos ((pOkB_iff f).2 h)]
theorem pAns_no {f : ByteArray} (h : ¬ pOk f) : pAns f = (0, ⟨#[]⟩, ⟨#[]⟩, 6) := by unfold pAns; rw [if_neg (fun q => h ((pOkB_iff f).1 q))]

theorem pOk_file {f : ByteArray} (h : pOk f) : wFile (num f 3 2) (f.extract 6 (pT f)) (f.extract (pT f + 2) (pE f)) = f := by
  obtain ⟨h1, h2, h3, h4, h5, h6, h7⟩ := h
  have hT : pT f = 6 + 2 * btn f 5 := rfl
  have hE : pE f = pT f + 2 + pL f := rfl
  have hb : wBody (num f 3 2) (f.extract 6 (pT f)) (f.extract (pT f + 2) (pE f)) = f.extract 0 (pE f) := by
    unfold wBody
    rw [ext_size _ _ _ (by omega), ext_size _ _ _ (by omega), ← h2]
    rw [show (pT f - 6) / 2 = btn f 5 from by omega, show pE f - (pT f + 2) = num f (pT f) 2 from by unfold pE pL; omega]
    rw [le_num f 3 2 (by omega), le_one f 5 (by omega), le_num f (pT f) 2 (by omega)]
    rw [ext_ext f (by omega) (by omega), ext_ext f (by omega) (by omega), ext_ext f (by omega) (by omega), ext_ext f (by omega) (by omega), ext_ext f (by omega) (by omega)]
  unfold wFile
  rw [hb, ← h7, le_num f (pE f) 4 (by omega), ext_ext f (by omega) (by omega), ← h6, ByteArray.extract_zero_size]

theorem wFile_mark (id : Nat) (t c : ByteArray) : (wFile id t c).extract 0 3 = mk3 := by
  refine text_ext ?_ (fun i hi => ?_)
  · rw [ext_size _ _ _ (by rw [wFile_size]; omega)]; rfl
  · rw [ext_size _ _ _ (by rw [wFile_size]; omega)] at hi
    rw [btn_ext _ _ _ _ (by omega) (by rw [wFile_size]; omega), Nat.zero_add]
    unfold wFile wBody
    have e : ∀ x : ByteArray, btn (mk3 ++ x) i = btn mk3 i := fun x => by rw [btn_app, if_pos (by rw [mk3_size]; omega)]
    rw [ByteArray.append_assoc, ByteArray.append_assoc, ByteArray.append_assoc, ByteArray.append_assoc, ByteArray.append_assoc, e]
theorem wFile_len (id : Nat) (t c : ByteArray) (i : Nat) (hi : i < 2) : btn (wFile id t c) (6 + t.size + i) = btn (le c.size 2) i := by
  have hA : (mk3 ++ le id 2 ++ le (t.size / 2) 1 ++ t).size = 6 + t.size := by simp only [ByteArray.size_append, le_size, mk3_size]
  unfold wFile wBody
  rw [ByteArray.append_assoc, ByteArray.append_assoc (c := c ++ _), btn_app, if_neg (by rw [hA]; omega), hA, btn_app, if_pos (by rw [le_size]; omega)]
  congr 1; omega
theorem wFile_five (id : Nat) (t c : ByteArray) : btn (wFile id t c) 5 = t.size / 2 % 256 := by
  have hA : (mk3 ++ le id 2).size = 5 := by simp only [ByteArray.size_append, le_size, mk3_size]
  unfold wFile wBody
  rw [ByteArray.append_assoc, ByteArray.append_assoc, ByteArray.append_assoc, ByteArray.append_assoc, btn_app, if_neg (by rw [hA]; omega), hA, btn_app, if_pos (by rw [le_size]; omega), le_btn _ _ _ (by omega)]
  simp
theorem wFile_id (id : Nat) (t c : ByteArray) (i : Nat) (hi : i < 2) : btn (wFile id t c) (3 + i) = btn (le id 2) i := by
  unfold wFile wBody
  rw [ByteArray.append_assoc, ByteArray.append_assoc, ByteArray.append_assoc, ByteArray.append_assoc, ByteArray.append_assoc, btn_app, if_neg (by rw [mk3_size]; omega), mk3_size, btn_app, if_pos (by rw [le_size]; omega)]
  congr 1; omega
theorem wFile_sum (id : Nat) (t c : ByteArray) (i : Nat) : btn (wFile id t c) (8 + t.size + c.size + i) = btn (le (wSum (wBody id t c)) 4) i := by
  unfold wFile
  rw [btn_app, if_neg (by rw [wBody_size]; omega), wBody_size]
  congr 1; omega
theorem wFile_body (id : Nat) (t c : ByteArray) : (wFile id t c).extract 0 (8 + t.size + c.size) = wBody id t c :=
  ByteArray.extract_append_eq_left (wBody_size id t c).symm
theorem wFile_tab (id : Nat) (t c : ByteArray) : (wFile id t c).extract 6 (6 + t.size) = t := by
  have hA : (mk3 ++ le id 2 ++ le (t.size / 2) 1).size = 6 := by simp only [ByteArray.size_append, le_size, mk3_size]
  have hs := wFile_size id t c
  refine text_ext (by rw [ext_size _ _ _ (by omega)]; omega) (fun i hi => ?_)
  rw [ext_size _ _ _ (by omega)] at hi
  rw [btn_ext _ _ _ _ (by omega) (by omega)]
  unfold wFile wBody
  rw [ByteArray.append_assoc, ByteArray.append_assoc, ByteArray.append_assoc, btn_app, if_neg (by rw [hA]; omega), hA, btn_app, if_pos (by omega)]
  congr 1; omega
theorem wFile_con (id : Nat) (t c : ByteArray) : (wFile id t c).extract (8 + t.size) (8 + t.size + c.size) = c := by
  have hA : (mk3 ++ le id 2 ++ le (t.size / 2) 1 ++ t ++ le c.size 2).size = 8 + t.size := by simp only [ByteArray.size_append, le_size, mk3_size]; omega
  have hs := wFile_size id t c
  refine text_ext (by rw [ext_size _ _ _ (by omega)]; omega) (fun i hi => ?_)
  rw [ext_size _ _ _ (by omega)] at hi
  rw [btn_ext _ _ _ _ (by omega) (by omega)]
  unfold wFile wBody
  rw [ByteArray.append_assoc, btn_app, if_neg (by rw [hA]; omega), hA, btn_app, if_pos (by omega)]
  congr 1; omega

/-- A file that is written is read. -/
theorem file_read {id : Nat} {t c : ByteArray} (hi : id ≤ 65535) (ht : isTB t = true) (h1 : 1 ≤ c.size) (h2 : c.size ≤ 500) :
    pOk (wFile id t c) ∧ num (wFile id t c) 3 2 = id ∧ pT (wFile id t c) = 6 + t.size ∧ pE (wFile id t c) = 8 + t.size + c.size := by
  have hlong : t.size ≤ 128 := by
    rcases Nat.lt_or_ge 128 t.size with c | c
    · rw [isTB_long c] at ht; simp at ht
    · exact c
  have hev := ((isTB_iff t).1 ht).1
  have hT : pT (wFile id t c) = 6 + t.size := by
    unfold pT; rw [wFile_five]; omega
  have hL : pL (wFile id t c) = c.size := by
    unfold pL; rw [hT]
    exact num_le c.size 2 (wFile_len id t c) (by omega)
  have hE : pE (wFile id t c) = 8 + t.size + c.size := by unfold pE; rw [hT, hL]; omega
  have hs := wFile_size id t c
  refine ⟨⟨by omega, wFile_mark _ _ _, by rw [hT, wFile_tab]; exact ht, by omega, by omega, by omega, ?_⟩, num_le id 2 (wFile_id id t c) (by omega), hT, hE⟩
  rw [hE, wFile_body]
  exact num_le _ 4 (fun i _ => wFile_sum id t c i) (wSum_lt _)

/-- What is read by the parts' places and written anew. -/
theorem parse_iff {f : ByteArray} (h0 : pT f + 2 ≤ f.size - 4) (h1 : 12 ≤ f.size) :
    pOk f ↔ wrAns (num f 3 2 : Int) (f.extract 6 (pT f)) (f.extract (pT f + 2) (f.size - 4)) = (f, 0) := by
  have hn : num f 3 2 < 65536 := num_lt f 3 2
  have hc : (f.extract (pT f + 2) (f.size - 4)).size = f.size - 4 - (pT f + 2) := ext_size _ _ _ (by omega)
  constructor
  · intro h
    have e := pOk_file h
    obtain ⟨_, _, h3, h4, h5, h6, _⟩ := h
    have hE : pE f = pT f + 2 + pL f := rfl
    rw [show f.size - 4 = pE f from by omega] at *
    unfold wrAns
    rw [if_neg (by omega), if_neg (by omega), if_neg (by rw [h3]; simp), Int.toNat_natCast, e]
  · intro h
    unfold wrAns at h
    split at h
    · simp at h
    · split at h
      · simp at h
      · split at h
        · simp at h
        · rename_i c1 c2 c3
          have e : wFile (num f 3 2) (f.extract 6 (pT f)) (f.extract (pT f + 2) (f.size - 4)) = f := by
            have := congrArg Prod.fst h
            simpa using this
          have ht : isTB (f.extract 6 (pT f)) = true := by simpa using c3
          have hr := file_read (id := num f 3 2) (c := f.extract (pT f + 2) (f.size - 4)) (by omega) ht (by omega) (by omega)
          rw [e] at hr
          exact hr.1
theorem pOk_big {f : ByteArray} (h : pOk f) : 13 ≤ f.size ∧ pT f + 2 ≤ f.size - 4 := by
  obtain ⟨h1, h2, h3, h4, h5, h6, h7⟩ := h
  have hE : pE f = pT f + 2 + pL f := rfl
  have hT : pT f = 6 + 2 * btn f 5 := rfl
  omega
end Go.Proofs.Ytjnieekhagmdfaa

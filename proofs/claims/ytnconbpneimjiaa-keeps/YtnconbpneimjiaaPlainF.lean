/-
  Plain texts, put together: SumPlain, FileDefs, CovDefs, CovMath, SpoilMath, StoDefs.
-/
import Derived.Laws.BitsAllLaws
import Derived.PlainAid
import Derived.Test.YtnconbpneimjiaaPlain

/-
  P3, the plain mathematics: the sum of a text, byte by byte. Imports nothing of the program.
-/
namespace Go.Proofs.Ytnconbpneimjiaa
open Go.PlainAid

/-- One step of the sum: the exclusive or, times 16777619, modulo 2^32. -/
def sumStep (h b : Int) : Int := bits .xor .i64 h b * 16777619 % 4294967296
/-- The sum of the first k bytes. -/
def sumTo (s : ByteArray) : Nat → Int
  | 0 => 2166136261
  | k + 1 => sumStep (sumTo s k) (bt s k)

theorem xor_i64_nat (a b : Nat) (ha : a < 4294967296) (hb : b < 4294967296) : bits .xor .i64 (a : Int) (b : Int) = ((a ^^^ b : Nat) : Int) := by
  have hx : a ^^^ b < 2 ^ 32 := Nat.xor_lt_two_pow (by omega) (by omega)
  show IntKind.i64.wrap ((BitVec.ofInt 64 (a : Int) ^^^ BitVec.ofInt 64 (b : Int)).toNat : Int) = _
  rw [BitVec.toNat_xor, ofInt_u64 a (by omega), ofInt_u64 b (by omega), IntKind.wrap_i64]
  omega
theorem xor_bd (a b : Int) (h1 : 0 ≤ a) (h2 : a < 4294967296) (h3 : 0 ≤ b) (h4 : b ≤ 255) : 0 ≤ bits .xor .i64 a b ∧ bits .xor .i64 a b < 4294967296 := by
  obtain ⟨A, rfl⟩ := Int.eq_ofNat_of_zero_le h1
  obtain ⟨B, rfl⟩ := Int.eq_ofNat_of_zero_le h3
  rw [xor_i64_nat A B (by omega) (by omega)]
  have hx : A ^^^ B < 2 ^ 32 := Nat.xor_lt_two_pow (by omega) (by omega)
  omega
theorem sumTo_bd (s : ByteArray) (k : Nat) : 0 ≤ sumTo s k ∧ sumTo s k < 4294967296 := by
  cases k with
  | zero => simp [sumTo]
  | succ k => simp only [sumTo, sumStep]; omega
end Go.Proofs.Ytnconbpneimjiaa

/-
  P8, P9, plain: numbers in bytes, files, what is read as one.
-/
namespace Go.Proofs.Ytnconbpneimjiaa
open Go.PlainAid

/-! ### Texts, byte by byte -/
theorem btn_app (a b : ByteArray) (i : Nat) : btn (a ++ b) i = if i < a.size then btn a i else btn b (i - a.size) := by
  by_cases h : i < (a ++ b).size
  · have e := get_btn (a ++ b) i h
    by_cases c : i < a.size
    · rw [if_pos c]
      have e2 := get_btn a i c
      rw [ByteArray.getElem_append_left c] at e
      omega
    · rw [if_neg c]
      have hs := h
      rw [ByteArray.size_append] at hs
      have e2 := get_btn b (i - a.size) (by omega)
      rw [ByteArray.getElem_append_right (by omega)] at e
      omega
  · have hs := h
    rw [ByteArray.size_append] at hs
    rw [if_neg (by omega)]
    unfold btn
    rw [bt_end _ (by omega), bt_end _ (by omega)]
theorem btn_ext (s : ByteArray) (a b i : Nat) (h : a + i < b) (hb : b ≤ s.size) : btn (s.extract a b) i = btn s (a + i) := by
  have hi : i < (s.extract a b).size := by rw [ByteArray.size_extract]; omega
  have e := get_btn (s.extract a b) i hi
  have e2 := get_btn s (a + i) (by omega)
  rw [ByteArray.getElem_extract hi] at e
  omega
theorem ext_size (s : ByteArray) (a b : Nat) (hb : b ≤ s.size) : (s.extract a b).size = b - a := by
  rw [ByteArray.size_extract]; omega
theorem ext_ext (s : ByteArray) {a b c : Nat} (h1 : a ≤ b) (h2 : b ≤ c) : s.extract a b ++ s.extract b c = s.extract a c := by
  rw [ByteArray.extract_append_extract, Nat.min_eq_left h1, Nat.max_eq_right h2]
theorem btn_congr {a b : ByteArray} (h : a = b) (i : Nat) : btn a i = btn b i := by rw [h]

/-! ### Numbers in bytes -/
def leL (n k : Nat) : List Nat := (List.range k).map fun i => n / 256 ^ i % 256
def le (n k : Nat) : ByteArray := strN (leL n k)
theorem leL_succ (n k : Nat) : leL n (k + 1) = leL n k ++ [n / 256 ^ k % 256] := by simp [leL, List.range_succ]
theorem leL_len (n k : Nat) : (leL n k).length = k := by simp [leL]
theorem leL_lt (n k : Nat) : ∀ x ∈ leL n k, x < 256 := by
  intro x hx
  simp only [leL, List.mem_map] at hx
  obtain ⟨i, _, rfl⟩ := hx
  exact Nat.mod_lt _ (by omega)
theorem le_size (n k : Nat) : (le n k).size = k := by unfold le; rw [strN_size, leL_len]
theorem le_btn (n k i : Nat) (h : i < k) : btn (le n k) i = n / 256 ^ i % 256 := by
  unfold le
  rw [strN_btn _ (leL_lt n k)]
  simp [leL, h]
/-- The number in k bytes from a place on. -/
def num (s : ByteArray) (a : Nat) : Nat → Nat
  | 0 => 0
  | k + 1 => num s a k + 256 ^ k * btn s (a + k)
theorem num_lt (s : ByteArray) (a k : Nat) : num s a k < 256 ^ k := by
  induction k with
  | zero => simp [num]
  | succ k ih =>
    have hb := btn_lt s (a + k)
    have h2 : 256 ^ k * btn s (a + k) ≤ 256 ^ k * 255 := Nat.mul_le_mul_left _ (by omega)
    rw [num, Nat.pow_succ]; omega
theorem num_front (s : ByteArray) (a k : Nat) : num s a (k + 1) = 256 * num s (a + 1) k + btn s a := by
  induction k with
  | zero => simp [num]
  | succ k ih =>
    rw [num, ih]
    conv => rhs; rw [num]
    rw [Nat.mul_add, Nat.pow_succ, show a + 1 + k = a + (k + 1) from by omega, ← Nat.mul_assoc, Nat.mul_comm 256 (256 ^ k)]
    omega
theorem num_congr {s r : ByteArray} {a b k : Nat} (h : ∀ i, i < k → btn s (a + i) = btn r (b + i)) : num s a k = num r b k := by
  induction k with
  | zero => rfl
  | succ k ih => rw [num, num, ih (fun i hi => h i (by omega)), h k (by omega)]
theorem num_ext (s : ByteArray) (a b : Nat) (h : a ≤ b) (hb : b ≤ s.size) : num (s.extract a b) 0 (b - a) = num s a (b - a) :=
  num_congr (fun i hi => by rw [Nat.zero_add]; exact btn_ext s a b i (by omega) hb)
theorem num_mod (n k : Nat) : ∀ s : ByteArray, ∀ a, (∀ i, i < k → btn s (a + i) = n / 256 ^ i % 256) → num s a k = n % 256 ^ k := by
  intro s a
  induction k with
  | zero => intro _; simp [num, Nat.mod_one]
  | succ k ih =>
    intro h
    rw [num, ih (fun i hi => h i (by omega)), h k (by omega), Nat.pow_succ, Nat.mod_mul]
theorem num_le (n k : Nat) {s : ByteArray} {a : Nat} (h : ∀ i, i < k → btn s (a + i) = btn (le n k) i) (hn : n < 256 ^ k) : num s a k = n := by
  rw [num_mod n k s a (fun i hi => by rw [h i hi, le_btn n k i hi]), Nat.mod_eq_of_lt hn]
theorem num_digit (s : ByteArray) (a : Nat) : ∀ k i, i < k → num s a k / 256 ^ i % 256 = btn s (a + i) := by
  intro k
  induction k with
  | zero => intro i h; omega
  | succ k ih =>
    intro i h
    have hlt := num_lt s a k
    have hb := btn_lt s (a + k)
    have hp : 0 < 256 ^ k := Nat.pow_pos (by omega)
    rw [num]
    rcases Nat.lt_or_ge i k with c | c
    · rw [← ih i c]
      obtain ⟨e, rfl⟩ : ∃ e, k = i + 1 + e := ⟨k - i - 1, by omega⟩
      have hpi : 0 < 256 ^ i := Nat.pow_pos (by omega)
      rw [show 256 ^ (i + 1 + e) * btn s (a + (i + 1 + e)) = 256 ^ i * (256 * (256 ^ e * btn s (a + (i + 1 + e)))) from by
        rw [Nat.pow_add, Nat.pow_succ]; simp only [Nat.mul_assoc]]
      rw [Nat.add_mul_div_left _ _ hpi, Nat.add_mul_mod_self_left]
    · obtain rfl : i = k := by omega
      rw [Nat.add_mul_div_left _ _ hp, Nat.div_eq_of_lt hlt, Nat.zero_add, Nat.mod_eq_of_lt hb]
theorem le_num (s : ByteArray) (a k : Nat) (h : a + k ≤ s.size) : le (num s a k) k = s.extract a (a + k) := by
  refine text_ext ?_ (fun i hi => ?_)
  · rw [le_size, ext_size _ _ _ h]; omega
  · rw [le_size] at hi
    rw [le_btn _ _ _ hi, num_digit s a k i hi, btn_ext s a (a + k) i (by omega) h]
theorem le_one (s : ByteArray) (a : Nat) (h : a < s.size) : le (btn s a) 1 = s.extract a (a + 1) := by
  have e := le_num s a 1 (by omega)
  rw [num, num] at e
  simpa using e

/-! ### Files -/
def mk3 : ByteArray := ⟨#[71, 68, 1]⟩
def wBody (id : Nat) (t c : ByteArray) : ByteArray := mk3 ++ le id 2 ++ le (t.size / 2) 1 ++ t ++ le c.size 2 ++ c
def wSum (s : ByteArray) : Nat := (sumTo s s.size).toNat
def wFile (id : Nat) (t c : ByteArray) : ByteArray := wBody id t c ++ le (wSum (wBody id t c)) 4
theorem wSum_int (s : ByteArray) : sumTo s s.size = (wSum s : Int) := by have := sumTo_bd s s.size; unfold wSum; omega
theorem wSum_lt (s : ByteArray) : wSum s < 4294967296 := by have := sumTo_bd s s.size; unfold wSum; omega
theorem mk3_size : mk3.size = 3 := rfl
theorem wBody_size (id : Nat) (t c : ByteArray) : (wBody id t c).size = 8 + t.size + c.size := by
  unfold wBody
  simp only [ByteArray.size_append, le_size, mk3_size]; omega
theorem wFile_size (id : Nat) (t c : ByteArray) : (wFile id t c).size = 12 + t.size + c.size := by
  unfold wFile
  rw [ByteArray.size_append, le_size, wBody_size]; omega
/-- What Write answers. -/
def wrAns (id : Int) (t c : ByteArray) : ByteArray × Int :=
  if 500 < c.size then (⟨#[]⟩, 1) else if id < 0 ∨ 65535 < id ∨ c.size = 0 then (⟨#[]⟩, 2) else if isTB t = false then (⟨#[]⟩, 3) else (wFile id.toNat t c, 0)

/-- Where the parts of a file would end. -/
def pT (f : ByteArray) : Nat := 6 + 2 * btn f 5
def pL (f : ByteArray) : Nat := num f (pT f) 2
def pE (f : ByteArray) : Nat := pT f + 2 + pL f
def pOk (f : ByteArray) : Prop := pT f + 2 ≤ f.size ∧ f.extract 0 3 = mk3 ∧ isTB (f.extract 6 (pT f)) = true ∧ 1 ≤ pL f ∧ pL f ≤ 500 ∧ f.size = pE f + 4 ∧ num f (pE f) 4 = wSum (f.extract 0 (pE f))
def pOkB (f : ByteArray) : Bool := decide (pT f + 2 ≤ f.size ∧ f.extract 0 3 = mk3 ∧ isTB (f.extract 6 (pT f)) = true ∧ 1 ≤ pL f ∧ pL f ≤ 500 ∧ f.size = pE f + 4 ∧ num f (pE f) 4 = wSum (f.extract 0 (pE f)))
theorem pOkB_iff (f : ByteArray) : pOkB f = true ↔ pOk f := decide_eq_true_iff
/-- What Parse answers. -/
def pAns (f : ByteArray) : Int × ByteArray × ByteArray × Int :=
  if pOkB f then ((num f 3 2 : Int), f.extract 6 (pT f), f.extract (pT f + 2) (pE f), 0) else (0, ⟨#[]⟩, ⟨#[]⟩, 6)
theorem pAns_yes {f : ByteArray} (h : pOk f) : pAns f = ((num f 3 2 : Int), f.extract 6 (pT f), f.extract (pT f + 2) (pE f), 0) := by unfold pAns; rw [if_pos ((pOkB_iff f).2 h)]
theorem pAns_no {f : ByteArray} (h : ¬ pOk f) : pAns f = (0, ⟨#[]⟩, ⟨#[]⟩, 6) := by unfold pAns; rw [if_neg (fun q => h ((pOkB_iff f).1 q))]

theorem pOk_file {f : ByteArray} (h : pOk f) : wFile (num f 3 2) (f.extract 6 (pT f)) (f.extract (pT f + 2) (pE f)) = f := by
  obtain ⟨h1, h2, h3, h4, h5, h6, h7⟩ := h
  have hT : pT f = 6 + 2 * btn f 5 := rfl
  have hE : pE f = pT f + 2 + pL f := rfl
  have hb : wBody (num f 3 2) (f.extract 6 (pT f)) (f.extract (pT f + 2) (pE f)) = f.extract 0 (pE f) := by
    unfold wBody
    rw [ext_size _ _ _ (by omega), ext_size _ _ _ (by omega), ← h2]
    rw [show (pT f - 6) / 2 = btn f 5 from by omega, show pE f - (pT f + 2) = num f (pT f) 2 from by unfold pE pL; omega]
    rw [le_num f 3 2 (by omega), le_one f 5 (by omega), le_num f (pT f) 2 (by omega)]
    rw [ext_ext f (by omega) (by omega), ext_ext f (by omega) (by omega), ext_ext f (by omega) (by omega), ext_ext f (by omega) (by omega), ext_ext f (by omega) (by omega)]
  unfold wFile
  rw [hb, ← h7, le_num f (pE f) 4 (by omega), ext_ext f (by omega) (by omega), ← h6, ByteArray.extract_zero_size]

theorem wFile_mark (id : Nat) (t c : ByteArray) : (wFile id t c).extract 0 3 = mk3 := by
  refine text_ext ?_ (fun i hi => ?_)
  · rw [ext_size _ _ _ (by rw [wFile_size]; omega)]; rfl
  · rw [ext_size _ _ _ (by rw [wFile_size]; omega)] at hi
    rw [btn_ext _ _ _ _ (by omega) (by rw [wFile_size]; omega), Nat.zero_add]
    unfold wFile wBody
    have e : ∀ x : ByteArray, btn (mk3 ++ x) i = btn mk3 i := fun x => by rw [btn_app, if_pos (by rw [mk3_size]; omega)]
    rw [ByteArray.append_assoc, ByteArray.append_assoc, ByteArray.append_assoc, ByteArray.append_assoc, ByteArray.append_assoc, e]
theorem wFile_len (id : Nat) (t c : ByteArray) (i : Nat) (hi : i < 2) : btn (wFile id t c) (6 + t.size + i) = btn (le c.size 2) i := by
  have hA : (mk3 ++ le id 2 ++ le (t.size / 2) 1 ++ t).size = 6 + t.size := by simp only [ByteArray.size_append, le_size, mk3_size]
  unfold wFile wBody
  rw [ByteArray.append_assoc, ByteArray.append_assoc (c := c ++ _), btn_app, if_neg (by rw [hA]; omega), hA, btn_app, if_pos (by rw [le_size]; omega)]
  congr 1; omega
theorem wFile_five (id : Nat) (t c : ByteArray) : btn (wFile id t c) 5 = t.size / 2 % 256 := by
  have hA : (mk3 ++ le id 2).size = 5 := by simp only [ByteArray.size_append, le_size, mk3_size]
  unfold wFile wBody
  rw [ByteArray.append_assoc, ByteArray.append_assoc, ByteArray.append_assoc, ByteArray.append_assoc, btn_app, if_neg (by rw [hA]; omega), hA, btn_app, if_pos (by rw [le_size]; omega), le_btn _ _ _ (by omega)]
  simp
theorem wFile_id (id : Nat) (t c : ByteArray) (i : Nat) (hi : i < 2) : btn (wFile id t c) (3 + i) = btn (le id 2) i := by
  unfold wFile wBody
  rw [ByteArray.append_assoc, ByteArray.append_assoc, ByteArray.append_assoc, ByteArray.append_assoc, ByteArray.append_assoc, btn_app, if_neg (by rw [mk3_size]; omega), mk3_size, btn_app, if_pos (by rw [le_size]; omega)]
  congr 1; omega
theorem wFile_sum (id : Nat) (t c : ByteArray) (i : Nat) : btn (wFile id t c) (8 + t.size + c.size + i) = btn (le (wSum (wBody id t c)) 4) i := by
  unfold wFile
  rw [btn_app, if_neg (by rw [wBody_size]; omega), wBody_size]
  congr 1; omega
theorem wFile_body (id : Nat) (t c : ByteArray) : (wFile id t c).extract 0 (8 + t.size + c.size) = wBody id t c :=
  ByteArray.extract_append_eq_left (wBody_size id t c).symm
theorem wFile_tab (id : Nat) (t c : ByteArray) : (wFile id t c).extract 6 (6 + t.size) = t := by
  have hA : (mk3 ++ le id 2 ++ le (t.size / 2) 1).size = 6 := by simp only [ByteArray.size_append, le_size, mk3_size]
  have hs := wFile_size id t c
  refine text_ext (by rw [ext_size _ _ _ (by omega)]; omega) (fun i hi => ?_)
  rw [ext_size _ _ _ (by omega)] at hi
  rw [btn_ext _ _ _ _ (by omega) (by omega)]
  unfold wFile wBody
  rw [ByteArray.append_assoc, ByteArray.append_assoc, ByteArray.append_assoc, btn_app, if_neg (by rw [hA]; omega), hA, btn_app, if_pos (by omega)]
  congr 1; omega
theorem wFile_con (id : Nat) (t c : ByteArray) : (wFile id t c).extract (8 + t.size) (8 + t.size + c.size) = c := by
  have hA : (mk3 ++ le id 2 ++ le (t.size / 2) 1 ++ t ++ le c.size 2).size = 8 + t.size := by simp only [ByteArray.size_append, le_size, mk3_size]; omega
  have hs := wFile_size id t c
  refine text_ext (by rw [ext_size _ _ _ (by omega)]; omega) (fun i hi => ?_)
  rw [ext_size _ _ _ (by omega)] at hi
  rw [btn_ext _ _ _ _ (by omega) (by omega)]
  unfold wFile wBody
  rw [ByteArray.append_assoc, btn_app, if_neg (by rw [hA]; omega), hA, btn_app, if_pos (by omega)]
  congr 1; omega

/-- A file that is written is read. -/
theorem file_read {id : Nat} {t c : ByteArray} (hi : id ≤ 65535) (ht : isTB t = true) (h1 : 1 ≤ c.size) (h2 : c.size ≤ 500) :
    pOk (wFile id t c) ∧ num (wFile id t c) 3 2 = id ∧ pT (wFile id t c) = 6 + t.size ∧ pE (wFile id t c) = 8 + t.size + c.size := by
  have hlong : t.size ≤ 128 := by
    rcases Nat.lt_or_ge 128 t.size with c | c
    · rw [isTB_long c] at ht; simp at ht
    · exact c
  have hev := ((isTB_iff t).1 ht).1
  have hT : pT (wFile id t c) = 6 + t.size := by
    unfold pT; rw [wFile_five]; omega
  have hL : pL (wFile id t c) = c.size := by
    unfold pL; rw [hT]
    exact num_le c.size 2 (wFile_len id t c) (by omega)
  have hE : pE (wFile id t c) = 8 + t.size + c.size := by unfold pE; rw [hT, hL]; omega
  have hs := wFile_size id t c
  refine ⟨⟨by omega, wFile_mark _ _ _, by rw [hT, wFile_tab]; exact ht, by omega, by omega, by omega, ?_⟩, num_le id 2 (wFile_id id t c) (by omega), hT, hE⟩
  rw [hE, wFile_body]
  exact num_le _ 4 (fun i _ => wFile_sum id t c i) (wSum_lt _)

/-- What is read by the parts' places and written anew. -/
theorem parse_iff {f : ByteArray} (h0 : pT f + 2 ≤ f.size - 4) (h1 : 12 ≤ f.size) :
    pOk f ↔ wrAns (num f 3 2 : Int) (f.extract 6 (pT f)) (f.extract (pT f + 2) (f.size - 4)) = (f, 0) := by
  have hn : num f 3 2 < 65536 := num_lt f 3 2
  have hc : (f.extract (pT f + 2) (f.size - 4)).size = f.size - 4 - (pT f + 2) := ext_size _ _ _ (by omega)
  constructor
  · intro h
    have e := pOk_file h
    obtain ⟨_, _, h3, h4, h5, h6, _⟩ := h
    have hE : pE f = pT f + 2 + pL f := rfl
    rw [show f.size - 4 = pE f from by omega] at *
    unfold wrAns
    rw [if_neg (by omega), if_neg (by omega), if_neg (by rw [h3]; simp), Int.toNat_natCast, e]
  · intro h
    unfold wrAns at h
    split at h
    · simp at h
    · split at h
      · simp at h
      · split at h
        · simp at h
        · rename_i c1 c2 c3
          have e : wFile (num f 3 2) (f.extract 6 (pT f)) (f.extract (pT f + 2) (f.size - 4)) = f := by
            have := congrArg Prod.fst h
            simpa using this
          have ht : isTB (f.extract 6 (pT f)) = true := by simpa using c3
          have hr := file_read (id := num f 3 2) (c := f.extract (pT f + 2) (f.size - 4)) (by omega) ht (by omega) (by omega)
          rw [e] at hr
          exact hr.1
theorem pOk_big {f : ByteArray} (h : pOk f) : 13 ≤ f.size ∧ pT f + 2 ≤ f.size - 4 := by
  obtain ⟨h1, h2, h3, h4, h5, h6, h7⟩ := h
  have hE : pE f = pT f + 2 + pL f := rfl
  have hT : pT f = 6 + 2 * btn f 5 := rfl
  omega
end Go.Proofs.Ytnconbpneimjiaa

/-
  P7, plain: pieces, windows, scores, contents.
-/
namespace Go.Proofs.Ytnconbpneimjiaa
open Go.PlainAid

/-- The piece at a place. -/
def pc (s : ByteArray) (d i : Nat) : ByteArray := s.extract i (i + d)
/-- The nearest place below c at which the piece of a stands. -/
def prvF (s : ByteArray) (d a : Nat) : Nat → Int
  | 0 => -1
  | c + 1 => if pc s d c = pc s d a then (c : Int) else prvF s d a c
def prv (s : ByteArray) (d a : Nat) : Int := prvF s d a a
def fsF (s : ByteArray) (d a : Nat) : Nat → Nat
  | 0 => a
  | n + 1 => if pc s d (a - (n + 1)) = pc s d a then a - (n + 1) else fsF s d a n
/-- The first place at which the piece of a stands. -/
def fs (s : ByteArray) (d a : Nat) : Nat := fsF s d a a
theorem prvF_spec (s : ByteArray) (d a c : Nat) : -1 ≤ prvF s d a c ∧ prvF s d a c < c ∧ (0 ≤ prvF s d a c → pc s d (prvF s d a c).toNat = pc s d a) ∧ ∀ j : Nat, prvF s d a c < j → j < c → pc s d j ≠ pc s d a := by
  induction c with
  | zero => exact ⟨by simp [prvF], by simp [prvF], fun h => by simp [prvF] at h, fun j _ h => by omega⟩
  | succ c ih =>
    rw [prvF]
    split
    · rename_i h
      refine ⟨by omega, by omega, fun _ => by rw [Int.toNat_natCast]; exact h, fun j h1 h2 => by omega⟩
    · rename_i h
      obtain ⟨i1, i2, i3, i4⟩ := ih
      refine ⟨i1, by omega, i3, fun j h1 h2 => ?_⟩
      rcases Nat.lt_or_ge j c with e | e
      · exact i4 j h1 e
      · obtain rfl : j = c := by omega
        exact h
theorem prv_spec (s : ByteArray) (d a : Nat) : -1 ≤ prv s d a ∧ prv s d a < a ∧ (0 ≤ prv s d a → pc s d (prv s d a).toNat = pc s d a) ∧ ∀ j : Nat, prv s d a < j → j < a → pc s d j ≠ pc s d a := prvF_spec s d a a
theorem fsF_spec (s : ByteArray) (d a n : Nat) (hn : n ≤ a) : a - n ≤ fsF s d a n ∧ fsF s d a n ≤ a ∧ pc s d (fsF s d a n) = pc s d a ∧ ∀ j, a - n ≤ j → j < fsF s d a n → pc s d j ≠ pc s d a := by
  induction n with
  | zero => exact ⟨by simp [fsF], Nat.le_refl _, rfl, fun j h1 h2 => by simp [fsF] at h2; omega⟩
  | succ n ih =>
    rw [fsF]
    split
    · rename_i h
      exact ⟨Nat.le_refl _, by omega, h, fun j h1 h2 => by omega⟩
    · rename_i h
      obtain ⟨i1, i2, i3, i4⟩ := ih (by omega)
      refine ⟨by omega, i2, i3, fun j h1 h2 => ?_⟩
      rcases Nat.lt_or_ge j (a - n) with e | e
      · obtain rfl : j = a - (n + 1) := by omega
        exact h
      · exact i4 j e h2
theorem fs_spec (s : ByteArray) (d a : Nat) : fs s d a ≤ a ∧ pc s d (fs s d a) = pc s d a ∧ ∀ j, j < fs s d a → pc s d j ≠ pc s d a := by
  obtain ⟨_, h2, h3, h4⟩ := fsF_spec s d a a (Nat.le_refl _)
  exact ⟨h2, h3, fun j hj => h4 j (by omega) hj⟩
theorem fs_uniq {s : ByteArray} {d a j : Nat} (h1 : pc s d j = pc s d a) (h2 : ∀ i, i < j → pc s d i ≠ pc s d a) : fs s d a = j := by
  obtain ⟨_, f2, f3⟩ := fs_spec s d a
  rcases Nat.lt_trichotomy (fs s d a) j with c | c | c
  · exact absurd f2 (h2 _ c)
  · exact c
  · exact absurd h1 (f3 _ c)
theorem fs_eq {s : ByteArray} {d a b : Nat} : fs s d a = fs s d b ↔ pc s d a = pc s d b := by
  constructor
  · intro h
    rw [← (fs_spec s d a).2.1, h, (fs_spec s d b).2.1]
  · intro h
    refine fs_uniq ?_ (fun i hi => ?_)
    · rw [(fs_spec s d b).2.1, h]
    · rw [h]; exact (fs_spec s d b).2.2 i hi
theorem fs_prv (s : ByteArray) (d a : Nat) : fs s d a = if 0 ≤ prv s d a then fs s d (prv s d a).toNat else a := by
  obtain ⟨p1, p2, p3, p4⟩ := prv_spec s d a
  split
  · rename_i h
    exact fs_eq.2 (p3 h).symm
  · rename_i h
    exact fs_uniq rfl (fun i hi => p4 i (by omega) hi)
/-- The piece stood in the window already. -/
theorem again_iff (s : ByteArray) (d i j : Nat) : (∃ k, i ≤ k ∧ k < j ∧ fs s d k = fs s d j) ↔ ¬ prv s d j < (i : Int) := by
  obtain ⟨p1, p2, p3, p4⟩ := prv_spec s d j
  constructor
  · rintro ⟨k, h1, h2, h3⟩ h
    exact p4 k (by omega) h2 (fs_eq.1 h3)
  · intro h
    exact ⟨(prv s d j).toNat, by omega, by omega, fs_eq.2 (p3 (by omega))⟩

/-- At how many of the first n places the piece with the first place j stands. -/
def tmTo (s : ByteArray) (d : Nat) : Nat → Nat → Nat
  | 0, _ => 0
  | n + 1, j => tmTo s d n j + if fs s d n = j then 1 else 0
theorem tmTo_le (s : ByteArray) (d n j : Nat) : tmTo s d n j ≤ n := by
  induction n with
  | zero => exact Nat.le_refl _
  | succ n ih => rw [tmTo]; split <;> omega
theorem tmTo_mono (s : ByteArray) (d j : Nat) {a b : Nat} (h : a ≤ b) : tmTo s d a j ≤ tmTo s d b j := by
  induction b with
  | zero => obtain rfl : a = 0 := by omega
            exact Nat.le_refl _
  | succ b ih =>
    rcases Nat.lt_or_ge b a with c | c
    · obtain rfl : a = b + 1 := by omega
      exact Nat.le_refl _
    · have := ih c; rw [tmTo]; omega
theorem tmTo_pos {s : ByteArray} {d n a : Nat} (h : a < n) : 1 ≤ tmTo s d n (fs s d a) := by
  have h1 : tmTo s d (a + 1) (fs s d a) ≤ tmTo s d n (fs s d a) := tmTo_mono s d _ (by omega)
  rw [tmTo, if_pos rfl] at h1
  omega
/-- What the piece with the first place j counts. -/
def hw (s : ByteArray) (d N : Nat) (tk : Nat → Bool) (j : Nat) : Nat := if tk j then 0 else tmTo s d N j
theorem hw_le (s : ByteArray) (d N : Nat) (tk : Nat → Bool) (j : Nat) : hw s d N tk j ≤ N := by
  unfold hw; split
  · omega
  · exact tmTo_le _ _ _ _
/-- The score of the first x pieces of the window at i. -/
def scTo (s : ByteArray) (d N : Nat) (tk : Nat → Bool) (i : Nat) : Nat → Nat
  | 0 => 0
  | x + 1 => scTo s d N tk i x + if prv s d (i + x) < (i : Int) then hw s d N tk (fs s d (i + x)) else 0
theorem scTo_le (s : ByteArray) (d N : Nat) (tk : Nat → Bool) (i x : Nat) : scTo s d N tk i x ≤ x * N := by
  induction x with
  | zero => simp [scTo]
  | succ x ih =>
    rw [scTo, Nat.succ_mul]
    have := hw_le s d N tk (fs s d (i + x))
    split <;> omega
/-- The best of the first n windows: where it begins, its score. -/
def bsTo (s : ByteArray) (d N : Nat) (tk : Nat → Bool) (w : Nat) : Nat → Nat × Nat
  | 0 => (0, 0)
  | n + 1 => if (bsTo s d N tk w n).2 < scTo s d N tk n w then (n, scTo s d N tk n w) else bsTo s d N tk w n
theorem bsTo_lt (s : ByteArray) (d N : Nat) (tk : Nat → Bool) (w n : Nat) (h : 0 < n) : (bsTo s d N tk w n).1 < n := by
  induction n with
  | zero => omega
  | succ n ih =>
    rw [bsTo]
    split
    · exact Nat.lt_succ_self _
    · rcases Nat.eq_zero_or_pos n with c | c
      · subst c; simp [bsTo]
      · have := ih c; omega
theorem bsTo_le (s : ByteArray) (d N : Nat) (tk : Nat → Bool) (w n : Nat) : (bsTo s d N tk w n).2 ≤ w * N := by
  induction n with
  | zero => simp [bsTo]
  | succ n ih =>
    rw [bsTo]
    split
    · exact scTo_le _ _ _ _ _ _
    · exact ih
theorem bsTo_max (s : ByteArray) (d N : Nat) (tk : Nat → Bool) (w n i : Nat) (h : i < n) : scTo s d N tk i w ≤ (bsTo s d N tk w n).2 := by
  induction n with
  | zero => omega
  | succ n ih =>
    rw [bsTo]
    rcases Nat.lt_or_ge i n with c | c
    · have := ih c
      split
      · simp only; omega
      · exact this
    · obtain rfl : i = n := by omega
      split
      · exact Nat.le_refl _
      · omega
/-- The first x pieces of the window at i are taken. -/
def tkTo (s : ByteArray) (d : Nat) (tk : Nat → Bool) (i : Nat) : Nat → Nat → Bool
  | 0, j => tk j
  | x + 1, j => if fs s d (i + x) = j then true else tkTo s d tk i x j
theorem tkTo_iff (s : ByteArray) (d : Nat) (tk : Nat → Bool) (i x j : Nat) : tkTo s d tk i x j = true ↔ tk j = true ∨ ∃ y, y < x ∧ fs s d (i + y) = j := by
  induction x with
  | zero => simp [tkTo]
  | succ x ih =>
    rw [tkTo]
    split
    · rename_i h
      exact ⟨fun _ => .inr ⟨x, by omega, h⟩, fun _ => rfl⟩
    · rename_i h
      rw [ih]
      constructor
      · rintro (c | ⟨y, h1, h2⟩)
        · exact .inl c
        · exact .inr ⟨y, by omega, h2⟩
      · rintro (c | ⟨y, h1, h2⟩)
        · exact .inl c
        · rcases Nat.lt_or_ge y x with e | e
          · exact .inr ⟨y, e, h2⟩
          · obtain rfl : y = x := by omega
            exact absurd h2 h

/-- The last n bytes. -/
def lastN (c : ByteArray) (n : Nat) : ByteArray := c.extract (c.size - n) c.size
theorem lastN_all {c : ByteArray} {n : Nat} (h : c.size ≤ n) : lastN c n = c := by
  unfold lastN; rw [show c.size - n = 0 from by omega, ByteArray.extract_zero_size]
theorem lastN_size (c : ByteArray) {n : Nat} (h : n ≤ c.size) : (lastN c n).size = n := by
  unfold lastN; rw [ext_size _ _ _ (Nat.le_refl _)]; omega
theorem lastN_app (a b : ByteArray) {n : Nat} (h1 : b.size ≤ n) (h2 : n ≤ a.size + b.size) : lastN (a ++ b) n = lastN a (n - b.size) ++ b := by
  have hs : (lastN a (n - b.size)).size = n - b.size := lastN_size a (by omega)
  have hsz : (a ++ b).size = a.size + b.size := ByteArray.size_append
  refine text_ext (by rw [lastN_size _ (by omega), ByteArray.size_append, hs]; omega) (fun i hi => ?_)
  rw [lastN_size _ (by omega)] at hi
  rw [btn_app, hs]
  unfold lastN
  rw [btn_ext _ _ _ _ (by omega) (Nat.le_refl _), btn_app]
  by_cases c : i < n - b.size
  · rw [if_pos c, if_pos (by omega), btn_ext _ _ _ _ (by omega) (Nat.le_refl _)]
    congr 1; omega
  · rw [if_neg c, if_neg (by omega)]
    congr 1; omega
/-- The content, on from a state. -/
def covF (s : ByteArray) (k d N B : Nat) : Nat → (Nat → Bool) → ByteArray → ByteArray
  | 0, _, c => c
  | f + 1, tk, c =>
    if c.size < B then
      if (bsTo s d N tk (k - d + 1) (s.size - k + 1)).2 = 0 then c
      else covF s k d N B f (tkTo s d tk (bsTo s d N tk (k - d + 1) (s.size - k + 1)).1 (k - d + 1)) (s.extract (bsTo s d N tk (k - d + 1) (s.size - k + 1)).1 ((bsTo s d N tk (k - d + 1) (s.size - k + 1)).1 + k) ++ c)
    else lastN c B
def cov (s : ByteArray) (k d B : Nat) : ByteArray := covF s k d (s.size - d + 1) B (B + 1) (fun _ => false) ⟨#[]⟩
/-- May a content be made so? -/
def covErr (s : ByteArray) (k d B : Int) : Int := if 800 < s.size then 1 else if d < 1 ∨ k < d ∨ B < k ∨ 500 < B ∨ (s.size : Int) < k then 2 else 0
def covAns (s : ByteArray) (k d B : Int) : ByteArray × Int := if covErr s k d B = 0 then (cov s k.toNat d.toNat B.toNat, 0) else (⟨#[]⟩, covErr s k d B)
end Go.Proofs.Ytnconbpneimjiaa

/-
  P7, plain: what a content is: its size, its end, the pieces in it.
-/
namespace Go.Proofs.Ytnconbpneimjiaa
open Go.PlainAid

theorem lastN_app2 (a b : ByteArray) {n : Nat} (h : n ≤ b.size) : lastN (a ++ b) n = lastN b n := by
  have hsz : (a ++ b).size = a.size + b.size := ByteArray.size_append
  refine text_ext (by rw [lastN_size _ (by omega), lastN_size _ h]) (fun i hi => ?_)
  rw [lastN_size _ (by omega)] at hi
  unfold lastN
  rw [btn_ext _ _ _ _ (by omega) (Nat.le_refl _), btn_ext _ _ _ _ (by omega) (Nat.le_refl _), btn_app, if_neg (by omega)]
  congr 1; omega
theorem lastN_lastN (c : ByteArray) {k n : Nat} (h1 : k ≤ n) (h2 : n ≤ c.size) : lastN (lastN c n) k = lastN c k := by
  have hs := lastN_size c h2
  refine text_ext (by rw [lastN_size _ (by omega), lastN_size _ (by omega)]) (fun i hi => ?_)
  rw [lastN_size _ (by omega)] at hi
  have e1 : btn (lastN (lastN c n) k) i = btn (lastN c n) (n - k + i) := by
    rw [lastN, btn_ext _ _ _ _ (by omega) (Nat.le_refl _), hs]
  have e2 : btn (lastN c n) (n - k + i) = btn c (c.size - n + (n - k + i)) := by
    rw [lastN, btn_ext _ _ _ _ (by omega) (Nat.le_refl _)]
  have e3 : btn (lastN c k) i = btn c (c.size - k + i) := by
    rw [lastN, btn_ext _ _ _ _ (by omega) (Nat.le_refl _)]
  rw [e1, e2, e3]
  congr 1; omega
theorem ext_app_right (a b : ByteArray) {i j : Nat} (h : j ≤ b.size) : (a ++ b).extract (a.size + i) (a.size + j) = b.extract i j := by
  have hsz : (a ++ b).size = a.size + b.size := ByteArray.size_append
  refine text_ext (by rw [ext_size _ _ _ (by omega), ext_size _ _ _ h]; omega) (fun y hy => ?_)
  rw [ext_size _ _ _ (by omega)] at hy
  rw [btn_ext _ _ _ _ (by omega) (by omega), btn_ext _ _ _ _ (by omega) h, btn_app, if_neg (by omega)]
  congr 1; omega
theorem ext_app_left (a b : ByteArray) {i j : Nat} (h : j ≤ a.size) : (a ++ b).extract i j = a.extract i j := by
  have hsz : (a ++ b).size = a.size + b.size := ByteArray.size_append
  refine text_ext (by rw [ext_size _ _ _ (by omega), ext_size _ _ _ h]) (fun y hy => ?_)
  rw [ext_size _ _ _ (by omega)] at hy
  rw [btn_ext _ _ _ _ (by omega) (by omega), btn_ext _ _ _ _ (by omega) h, btn_app, if_pos (by omega)]
theorem ext_of_ext (s : ByteArray) {a k i j : Nat} (h : j ≤ k) (hk : a + k ≤ s.size) : (s.extract a (a + k)).extract i j = s.extract (a + i) (a + j) := by
  have hs : (s.extract a (a + k)).size = k := by rw [ext_size _ _ _ hk]; omega
  refine text_ext (by rw [ext_size _ _ _ (by omega), ext_size _ _ _ (by omega)]; omega) (fun y hy => ?_)
  rw [ext_size _ _ _ (by omega)] at hy
  rw [btn_ext _ _ _ _ (by omega) (by omega), btn_ext _ _ _ _ (by omega) hk, btn_ext _ _ _ _ (by omega) (by omega)]
  congr 1; omega

/-- A window without a score: all its pieces are taken. -/
theorem sc_zero {s : ByteArray} {d N : Nat} {tk : Nat → Bool} {i x : Nat} (hx : i + x ≤ N) (h : scTo s d N tk i x = 0) : ∀ y, y < x → tk (fs s d (i + y)) = true := by
  have hterm : ∀ x, i + x ≤ N → scTo s d N tk i x = 0 → ∀ y, y < x → prv s d (i + y) < (i : Int) → tk (fs s d (i + y)) = true := by
    intro x
    induction x with
    | zero => intro _ _ y hy; omega
    | succ x ih =>
      intro hx h y hy hp
      rw [scTo] at h
      rcases Nat.lt_or_ge y x with c | c
      · exact ih (by omega) (by omega) y c hp
      · obtain rfl : y = x := by omega
        rw [if_pos hp] at h
        have h2 : hw s d N tk (fs s d (i + y)) = 0 := by omega
        unfold hw at h2
        have := tmTo_pos (s := s) (d := d) (n := N) (a := i + y) (by omega)
        cases hk : tk (fs s d (i + y))
        · rw [hk, if_neg (by simp)] at h2; omega
        · rfl
  intro y
  induction y using Nat.strongRecOn with
  | ind y ih =>
    intro hy
    by_cases hp : prv s d (i + y) < (i : Int)
    · exact hterm x hx h y hy hp
    · obtain ⟨p1, p2, p3, p4⟩ := prv_spec s d (i + y)
      obtain ⟨p, hpe⟩ := Int.eq_ofNat_of_zero_le (show 0 ≤ prv s d (i + y) by omega)
      have e := p3 (by omega)
      rw [hpe, Int.toNat_natCast] at e
      have := ih (p - i) (by omega) (by omega)
      rw [show i + (p - i) = p from by omega, fs_eq.2 e] at this
      exact this
theorem sc_first {s : ByteArray} {d N : Nat} {i x : Nat} (h1 : 1 ≤ x) (hx : i + x ≤ N) : 0 < scTo s d N (fun _ => false) i x := by
  rcases Nat.eq_zero_or_pos (scTo s d N (fun _ => false) i x) with h | h
  · have := sc_zero hx h 0 (by omega)
    simp at this
  · exact h

/-- A content that is made of windows, so far. -/
structure Made (s : ByteArray) (k d : Nat) (tk : Nat → Bool) (c : ByteArray) : Prop where
  start : (c = ⟨#[]⟩ ∧ tk = fun _ => false) ∨ (k ≤ c.size ∧ ∃ a, a + k ≤ s.size ∧ lastN c k = s.extract a (a + k))
  taken : ∀ j, tk j = true → ∃ i p, fs s d i = j ∧ p + d ≤ c.size ∧ c.extract p (p + d) = pc s d i
theorem Made.step {s : ByteArray} {k d : Nat} {tk : Nat → Bool} {c : ByteArray} (h : Made s k d tk c) (hd : 1 ≤ d) (hk : d ≤ k) {a : Nat} (ha : a + k ≤ s.size) : Made s k d (tkTo s d tk a (k - d + 1)) (s.extract a (a + k) ++ c) := by
  have hw : (s.extract a (a + k)).size = k := by rw [ext_size _ _ _ ha]; omega
  have hsz : (s.extract a (a + k) ++ c).size = k + c.size := by rw [ByteArray.size_append, hw]
  refine ⟨.inr ⟨by omega, ?_⟩, fun j hj => ?_⟩
  · rcases h.start with ⟨rfl, _⟩ | ⟨h1, b, h2, h3⟩
    · refine ⟨a, ha, ?_⟩
      have e0 : (⟨#[]⟩ : ByteArray).size = 0 := rfl
      have e1 := lastN_app (s.extract a (a + k)) ⟨#[]⟩ (n := k) (by omega) (by omega)
      rw [e1, e0, Nat.sub_zero, lastN_all (by omega)]
      exact text_ext (by rw [ByteArray.size_append, e0]; omega) (fun i hi => by rw [ByteArray.size_append, e0] at hi; rw [btn_app, if_pos (by omega)])
    · exact ⟨b, h2, by rw [lastN_app2 _ _ h1, h3]⟩
  · rcases (tkTo_iff s d tk a (k - d + 1) j).1 hj with q | ⟨y, hy, hf⟩
    · obtain ⟨i, p, h1, h2, h3⟩ := h.taken j q
      refine ⟨i, k + p, h1, by omega, ?_⟩
      have e := ext_app_right (s.extract a (a + k)) c (i := p) (j := p + d) h2
      rw [hw] at e
      rw [Nat.add_assoc, e, h3]
    · refine ⟨a + y, y, hf, by omega, ?_⟩
      rw [ext_app_left _ _ (by omega), ext_of_ext s (by omega) ha, ← Nat.add_assoc]
      rfl
/-- What a content is. -/
structure Cont (s : ByteArray) (k d B : Nat) (r : ByteArray) : Prop where
  ge : k ≤ r.size
  le : r.size ≤ B
  last : ∃ a, a + k ≤ s.size ∧ lastN r k = s.extract a (a + k)
  all : r.size < B → ∀ i, i + d ≤ s.size → ∃ p, p + d ≤ r.size ∧ r.extract p (p + d) = s.extract i (i + d)
theorem cont_F {s : ByteArray} {k d B : Nat} (hd : 1 ≤ d) (hk : d ≤ k) (hks : k ≤ s.size) (hB : k ≤ B) : ∀ f tk c, Made s k d tk c → B - c.size < f → Cont s k d B (covF s k d (s.size - d + 1) B f tk c) := by
  intro f
  induction f with
  | zero => intro tk c _ h; omega
  | succ f ih =>
    intro tk c hM hf
    rw [covF]
    by_cases h1 : c.size < B
    · rw [if_pos h1]
      have hat := bsTo_lt s d (s.size - d + 1) tk (k - d + 1) (s.size - k + 1) (by omega)
      by_cases h2 : (bsTo s d (s.size - d + 1) tk (k - d + 1) (s.size - k + 1)).2 = 0
      · rw [if_pos h2]
        have hz : ∀ i, i < s.size - k + 1 → scTo s d (s.size - d + 1) tk i (k - d + 1) = 0 := fun i hi => by
          have := bsTo_max s d (s.size - d + 1) tk (k - d + 1) (s.size - k + 1) i hi
          omega
        rcases hM.start with ⟨rfl, rfl⟩ | ⟨g1, g2⟩
        · have := sc_first (s := s) (d := d) (N := s.size - d + 1) (i := 0) (x := k - d + 1) (by omega) (by omega)
          have := hz 0 (by omega)
          omega
        · refine ⟨g1, by omega, g2, fun _ i hi => ?_⟩
          obtain ⟨a, y, ha, hy, hay⟩ : ∃ a y, a < s.size - k + 1 ∧ y < k - d + 1 ∧ a + y = i := by
            rcases Nat.lt_or_ge i (s.size - k + 1) with q | q
            · exact ⟨i, 0, q, by omega, by omega⟩
            · exact ⟨s.size - k, i - (s.size - k), by omega, by omega, by omega⟩
          have ht := sc_zero (by omega) (hz a ha) y hy
          rw [hay] at ht
          obtain ⟨i', p, q1, q2, q3⟩ := hM.taken _ ht
          exact ⟨p, q2, by rw [q3]; exact fs_eq.1 q1⟩
      · rw [if_neg h2]
        have ha : (bsTo s d (s.size - d + 1) tk (k - d + 1) (s.size - k + 1)).1 + k ≤ s.size := by omega
        refine ih _ _ (hM.step hd hk ha) ?_
        rw [ByteArray.size_append, ext_size _ _ _ ha]
        omega
    · rw [if_neg h1]
      rcases hM.start with ⟨rfl, _⟩ | ⟨g1, a, g2, g3⟩
      · have e0 : (⟨#[]⟩ : ByteArray).size = 0 := rfl
        omega
      · have hs := lastN_size c (show B ≤ c.size by omega)
        exact ⟨by omega, by omega, ⟨a, g2, by rw [lastN_lastN c hB (by omega), g3]⟩, fun h => by omega⟩
theorem cont {s : ByteArray} {k d B : Nat} (hd : 1 ≤ d) (hk : d ≤ k) (hks : k ≤ s.size) (hB : k ≤ B) : Cont s k d B (cov s k d B) := by
  unfold cov
  exact cont_F hd hk hks hB _ _ _ ⟨.inl ⟨rfl, rfl⟩, fun j hj => by simp at hj⟩ (by show B - 0 < B + 1; omega)
end Go.Proofs.Ytnconbpneimjiaa

/-
  P8, P9, plain: a file in which one byte is another is none.
-/
namespace Go.Proofs.Ytnconbpneimjiaa
open Go.PlainAid

/-- The sum's step, of natural numbers. -/
theorem step_nat (a b : Nat) (ha : a < 4294967296) (hb : b < 256) : sumStep (a : Int) (b : Int) = (((a ^^^ b) * 16777619 % 4294967296 : Nat) : Int) := by
  unfold sumStep
  rw [xor_i64_nat a b ha (by omega)]
  omega
theorem mul_back {x : Nat} (hx : x < 4294967296) : x * 16777619 % 4294967296 * 899433627 % 4294967296 = x := by
  rw [Nat.mul_mod (x * 16777619 % 4294967296), Nat.mod_mod, ← Nat.mul_mod, Nat.mul_assoc, show 16777619 * 899433627 = 1 + 4294967296 * 3513497 from rfl, Nat.mul_add, Nat.mul_one, Nat.mul_left_comm, Nat.add_mul_mod_self_left, Nat.mod_eq_of_lt hx]
theorem mul_inj {x y : Nat} (hx : x < 4294967296) (hy : y < 4294967296) (h : x * 16777619 % 4294967296 = y * 16777619 % 4294967296) : x = y := by
  rw [← mul_back hx, h, mul_back hy]
theorem xor_inj_l {a b c : Nat} (h : a ^^^ b = c ^^^ b) : a = c := by
  have e : (a ^^^ b) ^^^ b = (c ^^^ b) ^^^ b := by rw [h]
  rwa [Nat.xor_assoc, Nat.xor_assoc, Nat.xor_self, Nat.xor_zero, Nat.xor_zero] at e
theorem xor_inj_r {a b c : Nat} (h : a ^^^ b = a ^^^ c) : b = c := by
  rw [Nat.xor_comm a b, Nat.xor_comm a c] at h
  exact xor_inj_l h
theorem xor_lt32 {a b : Nat} (ha : a < 4294967296) (hb : b < 256) : a ^^^ b < 4294967296 := by
  have := Nat.xor_lt_two_pow (n := 32) (show a < 2 ^ 32 by omega) (show b < 2 ^ 32 by omega)
  omega
/-- The sum of the first k bytes, as a natural number. -/
def smTo (s : ByteArray) (k : Nat) : Nat := (sumTo s k).toNat
theorem smTo_int (s : ByteArray) (k : Nat) : sumTo s k = (smTo s k : Int) := by have := sumTo_bd s k; unfold smTo; omega
theorem smTo_lt (s : ByteArray) (k : Nat) : smTo s k < 4294967296 := by have := sumTo_bd s k; unfold smTo; omega
theorem smTo_succ (s : ByteArray) (k : Nat) : smTo s (k + 1) = (smTo s k ^^^ btn s k) * 16777619 % 4294967296 := by
  have e : sumTo s (k + 1) = sumStep (sumTo s k) (bt s k) := rfl
  rw [smTo_int, smTo_int, btn_int, step_nat _ _ (smTo_lt s k) (btn_lt s k)] at e
  exact Int.ofNat_inj.1 e
theorem step_ne {a b x y : Nat} (ha : a < 4294967296) (hb : b < 4294967296) (hx : x < 256) (hy : y < 256) (h : (a ≠ b ∧ x = y) ∨ (a = b ∧ x ≠ y)) : (a ^^^ x) * 16777619 % 4294967296 ≠ (b ^^^ y) * 16777619 % 4294967296 := by
  intro e
  have e2 := mul_inj (xor_lt32 ha hx) (xor_lt32 hb hy) e
  rcases h with ⟨h1, rfl⟩ | ⟨rfl, h2⟩
  · exact h1 (xor_inj_l e2)
  · exact h2 (xor_inj_r e2)
/-- Texts that differ in one byte have different sums. -/
theorem sum_one {s r : ByteArray} {i : Nat} (hd : btn s i ≠ btn r i) (he : ∀ j, j ≠ i → btn s j = btn r j) : ∀ k, (k ≤ i → smTo s k = smTo r k) ∧ (i < k → smTo s k ≠ smTo r k) := by
  intro k
  induction k with
  | zero =>
    refine ⟨fun _ => ?_, fun h => by omega⟩
    unfold smTo; rfl
  | succ k ih =>
    rw [smTo_succ, smTo_succ]
    refine ⟨fun h => ?_, fun h => ?_⟩
    · rw [ih.1 (by omega), he k (by omega)]
    · rcases Nat.lt_or_ge i k with c | c
      · exact step_ne (smTo_lt s k) (smTo_lt r k) (btn_lt s k) (btn_lt r k) (.inl ⟨ih.2 c, he k (by omega)⟩)
      · obtain rfl : i = k := by omega
        exact step_ne (smTo_lt s i) (smTo_lt r i) (btn_lt s i) (btn_lt r i) (.inr ⟨ih.1 (Nat.le_refl _), hd⟩)
theorem sumTo_congr {s r : ByteArray} : ∀ k, (∀ j, j < k → btn s j = btn r j) → sumTo s k = sumTo r k := by
  intro k
  induction k with
  | zero => intro _; rfl
  | succ k ih =>
    intro h
    have e1 : sumTo s (k + 1) = sumStep (sumTo s k) (bt s k) := rfl
    have e2 : sumTo r (k + 1) = sumStep (sumTo r k) (bt r k) := rfl
    rw [e1, e2, ih (fun j hj => h j (by omega)), btn_int, btn_int, h k (by omega)]
theorem wSum_ext (s : ByteArray) (e : Nat) (h : e ≤ s.size) : wSum (s.extract 0 e) = smTo s e := by
  unfold wSum smTo
  have hs : (s.extract 0 e).size = e := by rw [ext_size _ _ _ h]; omega
  have e2 := sumTo_congr (s := s.extract 0 e) (r := s) e (fun j hj => by rw [btn_ext _ _ _ _ (by omega) h, Nat.zero_add])
  rw [hs, e2]
/-- A file in which one byte is another is no file. -/
theorem spoilt_no {f g : ByteArray} {i : Nat} (hf : pOk f) (hs : g.size = f.size) (hi : i < f.size) (hd : btn g i ≠ btn f i) (he : ∀ j, j ≠ i → btn g j = btn f j) : ¬ pOk g := by
  intro hg
  have f6 := hf.2.2.2.2.2.1
  have g6 := hg.2.2.2.2.2.1
  have f7 := hf.2.2.2.2.2.2
  have g7 := hg.2.2.2.2.2.2
  have hE : pE g = pE f := by omega
  rw [hE, wSum_ext g _ (by omega)] at g7
  rw [wSum_ext f _ (by omega)] at f7
  have hone := sum_one hd he (pE f)
  rcases Nat.lt_or_ge i (pE f) with c | c
  · have e : num g (pE f) 4 = num f (pE f) 4 := num_congr (fun j hj => he _ (by omega))
    exact hone.2 c (by rw [← g7, e, f7])
  · have e := num_digit g (pE f) 4 (i - pE f) (by omega)
    have e2 := num_digit f (pE f) 4 (i - pE f) (by omega)
    rw [show pE f + (i - pE f) = i from by omega] at e e2
    apply hd
    rw [← e, ← e2, g7, f7, hone.1 c]
end Go.Proofs.Ytnconbpneimjiaa

/-
  P13 to P15, plain: what a store remembers.
-/
namespace Go.Proofs.Ytnconbpneimjiaa
open Go.PlainAid

/-- Something that was done: a file bound (1), an id unbound (2), a frame laid (3). -/
structure Ev where
  kd : Nat
  id : Int
  ky : ByteArray
  tx : ByteArray
/-- The k-th of what was done. -/
def evAt (l : List Ev) (k : Nat) : Ev := l.getD k ⟨0, 0, ⟨#[]⟩, ⟨#[]⟩⟩
theorem evAt_snoc (l : List Ev) (e : Ev) : evAt (l ++ [e]) l.length = e := by
  unfold evAt
  simp [List.getD_eq_getElem?_getD]
theorem evAt_old (l : List Ev) (e : Ev) (k : Nat) (h : k < l.length) : evAt (l ++ [e]) k = evAt l k := by
  unfold evAt
  simp [List.getD_eq_getElem?_getD, List.getElem?_append_left h]
/-- The file that is bound to an id, looking back from the end; empty: none is. -/
def fileB (l : List Ev) (id : Int) : Nat → ByteArray
  | 0 => ⟨#[]⟩
  | k + 1 => if (evAt l k).kd ≠ 3 ∧ (evAt l k).id = id then (evAt l k).tx else fileB l id k
def fileOf (l : List Ev) (id : Int) : ByteArray := fileB l id l.length
/-- What lies under a key. -/
def frmB (l : List Ev) (ky : ByteArray) : Nat → Option ByteArray
  | 0 => none
  | k + 1 => if (evAt l k).kd = 3 ∧ (evAt l k).ky = ky then some (evAt l k).tx else frmB l ky k
def frmOf (l : List Ev) (ky : ByteArray) : Option ByteArray := frmB l ky l.length
/-- Did nothing of the j events behind i speak of its id? -/
def lastT (l : List Ev) (i : Nat) : Nat → Bool
  | 0 => (evAt l i).kd == 1
  | j + 1 => lastT l i j && ((evAt l (i + 1 + j)).kd == 3 || (evAt l (i + 1 + j)).id != (evAt l i).id)
/-- To how many ids files are bound, of the first k events. -/
def idsT (l : List Ev) : Nat → Nat
  | 0 => 0
  | k + 1 => idsT l k + if lastT l k (l.length - (k + 1)) then 1 else 0
def idsOf (l : List Ev) : Nat := idsT l l.length
theorem idsT_le (l : List Ev) (k : Nat) : idsT l k ≤ k := by
  induction k with
  | zero => exact Nat.le_refl _
  | succ k ih => rw [idsT]; split <;> omega
end Go.Proofs.Ytnconbpneimjiaa

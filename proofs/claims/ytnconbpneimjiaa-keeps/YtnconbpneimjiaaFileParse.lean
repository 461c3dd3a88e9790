/-
  P8, P9: the walks of numbers in bytes and of Write.
  P8: the walks of Write.
  P9: the walks of Parse.
  P9: the walks of Parse.
-/
import Derived.Test.YtnconbpneimjiaaStrTab
import Derived.Test.YtnconbpneimjiaaSumWalks
import Derived.Test.YtnconbpneimjiaaSqzWalk
import Derived.Test.YtnconbpneimjiaaPlainF
import Derived.Test.YtnconbpneimjiaaLayLay
import Derived.BigQuiet
namespace Go.Proofs.Ytnconbpneimjiaa
open Go.RowKit Go.PlainAid

/-! ### P8, P9: the walks of numbers in bytes and of Write. -/
set_option maxRecDepth 100000 in
set_option maxHeartbeats 400000 in
theorem wnum_any (n k : Nat) (w : World) (hn : n < 4294967296) (hk : k ≤ 4) :
    Calls Try.prog 46 #[.int .i64 n, .int .i64 k] w fun e w' => e = .returned (.string (le n k)) ∧ Below w.heap.size w w' := by
  obtain ⟨i0, hi, hz0, hz1, hz2⟩ := info_parts Try.infoU8
  go_enter Try.func46, Try.ntmps46
  go_wp2
  go_loopw [0, 5, 6] (fun m v i wr => ∃ j q : Nat, j ≤ k ∧ q < 4294967296 ∧ q = n / 256 ^ j ∧ m = .int .i64 q ∧ i = .int .i64 j ∧ wr.ownsRow w.heap.size 5 1 v j ((ints (leL n j)).map (Value.int .u8)) ∧ Below w.heap.size w wr) (fun _ _ i _ => k - (intOf i).toNat)
  case atStart => exact ⟨0, n, Nat.zero_le _, hn, by simp, rfl, rfl, World.ownsRow_nil _ _ _ _, Below.refl _ _⟩
  case round =>
    obtain ⟨j, q, hj, hq, hqn, rfl, rfl, hown, hbel⟩ := hrel
    have HQ := hid hqn
    have hsz := hbel.size
    clear hqn
    by_cases hlt : j < k
    · have HL := hid (leL_succ n j)
      rw [← HQ.out] at HL
      go_wp2_with (at_builtin; refine wpList_append_own _ rfl (.tmp 12) (.tmp 16) 29 rfl w.heap.size 5 i0 (.int .u8 0) 1 1 Try.underlying29 hi hz0 hz1 hz2 rfl (by decide) _ _ _ rfl (hown.alloc _) ⟨_, 0, none⟩ 1 1 [.int .u8 ((q : Int) % 256)] rfl rfl (cell_one_new _ _ _) (by intro u hu; simp at hu; subst hu; rfl) (by unfold maxLen; omega) (by omega) (by simp; omega) ?_; intro v' w4 hown' hgrow _)
      go_roundw
      case rel =>
        have hown4 : w4.ownsRow w.heap.size 5 1 v' (j + 1) ((ints (leL n (j + 1))).map (Value.int .u8)) := by
          rw [HL.out]; simpa [ints] using hown'
        have bel4 := (hbel.alloc hsz _).grown hgrow (by simp; omega) (own_base hown)
        have hq4 : q / 256 = n / 256 ^ (j + 1) := by rw [HQ.out, Nat.pow_succ, Nat.div_div_eq_div_mul]
        first
          | exact ⟨j + 1, q / 256, by omega, by omega, hq4, by go_num, by go_num, hown4, bel4⟩
          | ((repeat apply Exists.intro); exact ⟨⟨j + 1, q / 256, by omega, by omega, hq4, by go_num, by go_num, hown4, bel4⟩, rfl⟩)
      case measure => simp [intOf]; omega
    · have HJ := hid (show j = k from by omega)
      have hconv := conv_own (P := Try.prog) (dst := 9) Try.underlying29 Try.underlying5 Try.underlying9 hown
      have HE := hid (show strOfNums (ints (leL n j)) = le n k from by rw [HJ.out]; rfl)
      rw [HE.out] at hconv
      go_wp2
      go_ret
      exact ⟨rfl, hbel⟩

theorem pow4 {k : Nat} (hk : k ≤ 4) : 256 ^ k ≤ 4294967296 := by
  have : 256 ^ k ≤ 256 ^ 4 := Nat.pow_le_pow_right (by omega) hk
  omega
set_option maxRecDepth 100000 in
set_option maxHeartbeats 400000 in
theorem rnum_any (s : ByteArray) (w : World) (hs : s.size ≤ 4) :
    Calls Try.prog 31 #[.string s] w fun e w' => e = .returned (.int .i64 (num s 0 s.size : Int)) ∧ w' = w := by
  have hb := get_btn s
  go_enter Try.func31, Try.ntmps31
  go_wp2
  go_loop [3, 4] (fun n i => ∃ c : Nat, c ≤ s.size ∧ i = .int .i64 ((s.size : Int) - 1 - (c : Int)) ∧ n = .int .i64 (num s (s.size - c) c : Int)) (fun _ i => (intOf i + 1).toNat)
  case atStart => exact ⟨0, Nat.zero_le _, by simp, rfl⟩
  case round =>
    obtain ⟨c, hc, rfl, rfl⟩ := hrel
    have hn := num_lt s (s.size - c) c
    have hp := pow4 (k := c) (by omega)
    by_cases hlt : c < s.size
    · have HF := hid (show num s (s.size - (c + 1)) (c + 1) = 256 * num s (s.size - c) c + btn s (s.size - 1 - c) from by
        rw [num_front, show s.size - (c + 1) + 1 = s.size - c from by omega, show s.size - (c + 1) = s.size - 1 - c from by omega])
      have hb1 := btn_lt s (s.size - 1 - c)
      have hdi : decide ((0 : Int) ≤ (s.size : Int) - 1 - (c : Int)) = true := by simp; omega
      generalize num s (s.size - c) c = x at *
      go_wp2
      go_round
      case rel => exact ⟨c + 1, by omega, by go_num, by rw [HF.out]; go_num⟩
      case measure => simp [intOf]; omega
    · have HC := hid (show c = s.size from by omega)
      have hdi : decide ((0 : Int) ≤ (s.size : Int) - 1 - (c : Int)) = false := by simp; omega
      have HE := hid (show num s (s.size - c) c = num s 0 s.size from by rw [HC.out, Nat.sub_self])
      go_wp2
      go_ret
      exact ⟨ret_int (by rw [HE.out]), rfl⟩
theorem ofW_any (s : ByteArray) (w : World) (hs : s.size ≤ maxLen) :
    Calls Try.prog 32 #[.string s] w fun e w' => e = .returned (.int .i64 (wSum s : Int)) ∧ w' = w := by
  have h := of_any s w hs
  rw [wSum_int] at h
  exact h
/-! ### P8: the walks of Write. -/
theorem ret_sa {a b : ByteArray × Int} (h : a = b) : Ending.returned (.tuple #[.string a.1, .int .i64 a.2]) = .returned (.tuple #[.string b.1, .int .i64 b.2]) := by rw [h]
theorem isTB_size {t : ByteArray} (h : isTB t = true) : t.size ≤ 128 := by
  rcases Nat.lt_or_ge 128 t.size with c | c
  · rw [isTB_long c] at h; simp at h
  · exact c
theorem isId_any (id : Int) (w : World) :
    Calls Try.prog 28 #[.int .i64 id] w fun e w' => e = .returned (.bool (decide (0 ≤ id ∧ id ≤ 65535))) ∧ w' = w := by
  by_cases h0 : 0 ≤ id
  · by_cases h1 : id ≤ 65535
    · have e : decide (0 ≤ id ∧ id ≤ 65535) = true := by simp; omega
      rw [e]
      go_enter Try.func28, Try.ntmps28
      go_wp2
      go_ret
      exact ⟨by simp, rfl⟩
    · have e : decide (0 ≤ id ∧ id ≤ 65535) = false := by simp; omega
      rw [e]
      have h1' : decide (id ≤ 65535) = false := by simp; omega
      go_enter Try.func28, Try.ntmps28
      go_wp2
      go_ret
      exact ⟨by simp, rfl⟩
  · have e : decide (0 ≤ id ∧ id ≤ 65535) = false := by simp; omega
    rw [e]
    have h0' : decide (0 ≤ id) = false := by simp; omega
    go_enter Try.func28, Try.ntmps28
    go_wp2
    go_ret
    exact ⟨rfl, rfl⟩

set_option maxRecDepth 100000 in
set_option maxHeartbeats 800000 in
theorem fWrite_any (id : Nat) (t c : ByteArray) (w : World) (hi : id ≤ 65535) (ht : t.size ≤ 128) (hc : c.size ≤ 500) :
    Calls Try.prog 30 #[.int .i64 id, .string t, .string c] w fun e w' => e = .returned (.string (wFile id t c)) ∧ Below w.heap.size w w' := by
  have H1 := hid (fun w => wnum_any id 2 w (by omega) (by omega))
  have H2 := hid (fun w => wnum_any (t.size / 2) 1 w (by omega) (by omega))
  have H3 := hid (fun w => wnum_any c.size 2 w (by omega) (by omega))
  have H4 := hid (fun w => ofW_any (wBody id t c) w (by rw [wBody_size]; unfold maxLen; omega))
  have H5 := hid (fun w => wnum_any (wSum (wBody id t c)) 4 w (wSum_lt _) (by omega))
  have e1 : (le id 2).size = 2 := le_size _ _
  have e2 : (le (t.size / 2) 1).size = 1 := le_size _ _
  have e3 : (le c.size 2).size = 2 := le_size _ _
  have e5 : (le (wSum (wBody id t c)) 4).size = 4 := le_size _ _
  have e0 : (⟨#[71, 68, 1]⟩ : ByteArray).size = 3 := rfl
  have h7 := wSum_lt (wBody id t c)
  unfold wFile
  unfold wBody mk3 at *
  generalize le id 2 = a at *
  generalize le (t.size / 2) 1 = b at *
  generalize le c.size 2 = d at *
  generalize wSum _ = S at *
  generalize le S 4 = f at *
  go_enter Try.func30, Try.ntmps30
  go_wp2_with fail
  refine Calls.mono (H1.out _) ?_
  rintro e w1 ⟨rfl, b1⟩
  go_wp2_with fail
  refine Calls.mono (H2.out _) ?_
  rintro e w2 ⟨rfl, b2⟩
  go_wp2_with fail
  refine Calls.mono (H3.out _) ?_
  rintro e w3 ⟨rfl, b3⟩
  go_wp2_with fail
  refine Calls.mono (H4.out _) ?_
  rintro e w4 ⟨rfl, h4⟩
  rw [h4]
  clear h4 w4
  go_wp2_with fail
  refine Calls.mono (H5.out _) ?_
  rintro e w5 ⟨rfl, b5⟩
  go_wp2
  go_ret
  exact ⟨rfl, ((b1.trans (b2.mono b1.size)).trans (b3.mono (Nat.le_trans b1.size b2.size))).trans (b5.mono (Nat.le_trans (Nat.le_trans b1.size b2.size) b3.size))⟩

theorem wrAns_long {id : Int} {t c : ByteArray} (h : 500 < c.size) : wrAns id t c = (⟨#[]⟩, 1) := by unfold wrAns; rw [if_pos h]
theorem wrAns_par {id : Int} {t c : ByteArray} (h : ¬ 500 < c.size) (h2 : id < 0 ∨ 65535 < id ∨ c.size = 0) : wrAns id t c = (⟨#[]⟩, 2) := by unfold wrAns; rw [if_neg h, if_pos h2]
theorem wrAns_tab {id : Int} {t c : ByteArray} (h : ¬ 500 < c.size) (h2 : ¬ (id < 0 ∨ 65535 < id ∨ c.size = 0)) (h3 : isTB t = false) : wrAns id t c = (⟨#[]⟩, 3) := by unfold wrAns; rw [if_neg h, if_neg h2, if_pos h3]
theorem wrAns_ok {id : Int} {t c : ByteArray} (h : ¬ 500 < c.size) (h2 : ¬ (id < 0 ∨ 65535 < id ∨ c.size = 0)) (h3 : isTB t = true) : wrAns id t c = (wFile id.toNat t c, 0) := by unfold wrAns; rw [if_neg h, if_neg h2, if_neg (by rw [h3]; simp)]

set_option maxRecDepth 100000 in
set_option maxHeartbeats 800000 in
theorem write_file (id : Int) (t c : ByteArray) (w : World) (ht : t.size ≤ maxLen) (hc : c.size ≤ maxLen) :
    Calls Try.prog 15 #[.int .i64 id, .string t, .string c] w fun e w' => e = .returned (.tuple #[.string (wrAns id t c).1, .int .i64 (wrAns id t c).2]) ∧ Below w.heap.size w w' := by
  by_cases hl : 500 < c.size
  · have HA := hid (wrAns_long (id := id) (t := t) hl)
    unfold maxLen at hc
    have hl' : (500 : Int) < (c.size : Int) := by omega
    go_enter Try.func15, Try.ntmps15
    go_wp2
    go_ret2
    exact ⟨ret_sa HA.out.symm, Below.refl _ _⟩
  · have hl' : ¬ (500 : Int) < (c.size : Int) := by omega
    have HI := hid (isId_any id w)
    by_cases hi : 0 ≤ id ∧ id ≤ 65535
    · have hdi : decide (0 ≤ id ∧ id ≤ 65535) = true := by simp; omega
      rw [hdi] at HI
      clear hdi
      by_cases h0 : c.size = 0
      · have HA := hid (wrAns_par (id := id) (t := t) hl (Or.inr (Or.inr h0)))
        have h0' : ((c.size : Int) == 0) = true := by simp [h0]
        clear h0
        go_enter Try.func15, Try.ntmps15
        go_wp2_with (go_at_call 28; refine Calls.mono HI.out ?_; rintro e w' ⟨rfl, rfl⟩)
        go_ret2
        exact ⟨ret_sa HA.out.symm, Below.refl _ _⟩
      · have h0' : ((c.size : Int) == 0) = false := beq_eq_false_iff_ne.2 (by omega)
        have HT := hid (isTable_any t w ht)
        cases hT : isTB t
        · have HA := hid (wrAns_tab (id := id) (t := t) hl (by omega) hT)
          rw [hT] at HT
          clear hT h0
          go_enter Try.func15, Try.ntmps15
          go_wp2_with (first
            | (go_at_call 28; refine Calls.mono HI.out ?_; rintro e w' ⟨rfl, rfl⟩)
            | (go_at_call 29; refine Calls.mono HT.out ?_; rintro e w' ⟨rfl, rfl⟩))
          go_ret2
          exact ⟨ret_sa HA.out.symm, Below.refl _ _⟩
        · have HA := hid (wrAns_ok (id := id) (t := t) hl (by omega) hT)
          rw [hT] at HT
          have hsz := isTB_size hT
          obtain ⟨n, rfl⟩ := Int.eq_ofNat_of_zero_le hi.1
          rw [Int.toNat_natCast] at HA
          have HW := hid (fWrite_any n t c w (by omega) hsz (by omega))
          rw [HA.out]
          clear hT h0 HA
          generalize wFile n t c = F at *
          go_enter Try.func15, Try.ntmps15
          go_wp2_with (first
            | (go_at_call 28; refine Calls.mono HI.out ?_; rintro e w' ⟨rfl, rfl⟩)
            | (go_at_call 29; refine Calls.mono HT.out ?_; rintro e w' ⟨rfl, rfl⟩)
            | (go_at_call 30; refine Calls.mono HW.out ?_; rintro e w1 ⟨rfl, b1⟩))
          go_ret2
          exact ⟨rfl, b1⟩
    · have hdi : decide (0 ≤ id ∧ id ≤ 65535) = false := by simp; omega
      rw [hdi] at HI
      clear hdi
      have HA := hid (wrAns_par (id := id) (t := t) hl (by omega))
      go_enter Try.func15, Try.ntmps15
      go_wp2_with (go_at_call 28; refine Calls.mono HI.out ?_; rintro e w' ⟨rfl, rfl⟩)
      go_ret2
      exact ⟨ret_sa HA.out.symm, Below.refl _ _⟩

/-! ### P9: the walks of Parse. -/
theorem rnumE (f : ByteArray) (a b : Nat) (w : World) (h : a ≤ b) (hb : b ≤ f.size) (h4 : b - a ≤ 4) :
    Calls Try.prog 31 #[.string (f.extract a b)] w fun e w' => e = .returned (.int .i64 (num f a (b - a) : Int)) ∧ w' = w := by
  have hs := ext_size f a b hb
  have h := rnum_any (f.extract a b) w (by omega)
  rw [hs, num_ext f a b (by omega) hb] at h
  exact h
theorem text_beq (a b : ByteArray) : (a.toList == b.toList) = decide (a = b) := by
  rw [Bool.eq_iff_iff, beq_iff_eq, decide_eq_true_iff, ByteArray.toList_eq, ByteArray.toList_eq]
  exact ⟨fun h => ByteArray.ext (Array.toList_inj.mp h), fun h => by rw [h]⟩
theorem mk3_beq (x : ByteArray) : (x.toList == [71, 68, 1]) = decide (x = mk3) := by
  rw [← text_beq, ByteArray.toList_eq mk3]; rfl
def fileV (i : Int) (t c : ByteArray) (s : Int) : Value := .agg #[.int .i64 i, .string t, .string c, .int .i64 s]

def fRow (i : Int) (t c : ByteArray) (s : Int) (j : Nat) : Value := if j = 0 then .int .i64 i else if j = 1 then .string t else if j = 2 then .string c else .int .i64 s
theorem fRow_one (i : Int) (t c : ByteArray) (s : Int) (j : Nat) : (fRow i t c s j).oneCell' = true := by
  unfold fRow
  split
  · rfl
  · split
    · rfl
    · split <;> rfl
theorem fRow_new (w : World) : (w.alloc (.cells #[.int .i64 0, .string ⟨#[]⟩, .string ⟨#[]⟩, .int .i64 0] 48)).rowIs w.heap.size 48 4 (fRow 0 ⟨#[]⟩ ⟨#[]⟩ 0) :=
  World.rowIs_alloc w #[.int .i64 0, .string ⟨#[]⟩, .string ⟨#[]⟩, .int .i64 0] 48 (fRow 0 ⟨#[]⟩ ⟨#[]⟩ 0) (fun i hi => by
    have hi' : i < 4 := hi
    match i, hi' with
    | 0, _ => rfl
    | 1, _ => rfl
    | 2, _ => rfl
    | 3, _ => rfl)
theorem sizeFile : (Try.prog.info? 48).map (·.size) = some 4 := by kernel_rfl

set_option maxRecDepth 100000 in
set_option maxHeartbeats 1600000 in
theorem read_yes (f : ByteArray) (p L : Nat) (w : World) (hf : f.size ≤ maxLen) (hp : btn f 5 = p) (hL : num f (6 + 2 * p) 2 = L) (h1 : 12 + 2 * p + L = f.size) (h2 : f.extract 0 3 = mk3)
    (h3 : isTB (f.extract 6 (6 + 2 * p)) = true) (h4 : 1 ≤ L) (h5 : L ≤ 500) (b : Bool) (h7 : (num f (6 + 2 * p + 2 + L) 4 == wSum (f.extract 0 (6 + 2 * p + 2 + L))) = b) :
    Calls Try.prog 16 #[.string f] w fun e w' => e = .returned (.tuple #[if b then fileV (num f 3 2) (f.extract 6 (6 + 2 * p)) (f.extract (6 + 2 * p + 2) (6 + 2 * p + 2 + L)) (wSum (f.extract 0 (6 + 2 * p + 2 + L)) : Nat) else fileV 0 ⟨#[]⟩ ⟨#[]⟩ 0, .bool b]) ∧ Below w.heap.size w w' := by
  unfold maxLen at hf
  have hb := get_btn f
  have hp1 := btn_lt f 5
  have R1 := hid (fun w => rnumE f 3 5 w (by omega) (by omega) (by omega))
  have R2 := hid (fun w => rnumE f (6 + 2 * p) (6 + 2 * p + 2) w (by omega) (by omega) (by omega))
  have R3 := hid (fun w => rnumE f (6 + 2 * p + 2 + L) f.size w (by omega) (by omega) (by omega))
  have HT := hid (fun w => isTable_any (f.extract 6 (6 + 2 * p)) w (by rw [ext_size _ _ _ (by omega)]; unfold maxLen; omega))
  have HS := hid (fun w => ofW_any (f.extract 0 (6 + 2 * p + 2 + L)) w (by rw [ext_size _ _ _ (by omega)]; unfold maxLen; omega))
  rw [h3] at HT
  rw [show 6 + 2 * p + 2 - (6 + 2 * p) = 2 from by omega, hL] at R2
  rw [show f.size - (6 + 2 * p + 2 + L) = 4 from by omega] at R3
  have hm : ((f.extract 0 3).toList == [71, 68, 1]) = true := by rw [mk3_beq, h2]; simp
  have s1 : 12 + 2 * p + L ≤ f.size := by omega
  have s2 : f.size ≤ 12 + 2 * p + L := by omega
  have d0 : decide ((f.size : Int) < 6) = false := by simp; omega
  have d1 : decide ((L : Int) < 1) = false := by simp; omega
  have d2 : decide ((500 : Int) < (L : Int)) = false := by simp; omega
  have d3 : ((f.size : Int) != 6 + 2 * (p : Int) + 2 + (L : Int) + 4) = false := by simp; omega
  rw [hp] at hp1
  have hb5 : ∀ (h : 5 < f.size), ((f[5]'h).toNat : Int) = (p : Int) := fun h => by rw [hb 5 h, hp]
  have hs0 := wSum_lt (f.extract 0 (6 + 2 * p + 2 + L))
  have hn0 := num_lt f (6 + 2 * p + 2 + L) 4
  have h7' : ((num f (6 + 2 * p + 2 + L) 4 : Int) != (wSum (f.extract 0 (6 + 2 * p + 2 + L)) : Int)) = !b := by
    rw [← h7, bne]; congr 1; rw [Bool.eq_iff_iff]; simp; omega
  clear hb h7 h3 h2 hL h1 hp
  generalize wSum (f.extract 0 (6 + 2 * p + 2 + L)) = S at *
  generalize num f (6 + 2 * p + 2 + L) 4 = N4 at *
  generalize num f 3 2 = N2 at *
  go_enter Try.func16, Try.ntmps16
  go_wp2_with fail
  refine Calls.mono (R1.out _) ?_
  rintro e w1 ⟨rfl, k1⟩
  rw [k1]
  clear k1 w1
  go_wp2_with fail
  refine Calls.mono (R2.out _) ?_
  rintro e w1 ⟨rfl, k1⟩
  rw [k1]
  clear k1 w1
  go_wp2_with fail
  refine Calls.mono (HT.out _) ?_
  rintro e w1 ⟨rfl, k1⟩
  rw [k1]
  clear k1 w1
  have hI1 : 6 + 2 * (p : Int) + 2 + (L : Int) ≤ (f.size : Int) := by omega
  have hI0 : 0 ≤ 6 + 2 * (p : Int) + 2 + (L : Int) := by omega
  have hI2 : (6 + 2 * (p : Int) + 2 + (L : Int)).toNat = 6 + 2 * p + 2 + L := by omega
  go_wp2_with fail
  refine Calls.mono (HS.out _) ?_
  rintro e w1 ⟨rfl, k1⟩
  rw [k1]
  clear k1 w1
  go_wp2_with fail
  refine Calls.mono (R3.out _) ?_
  rintro e w1 ⟨rfl, k1⟩
  rw [k1]
  clear k1 w1
  have hq : (w.alloc (.cells #[.int .i64 0, .string ⟨#[]⟩, .string ⟨#[]⟩, .int .i64 0] 48)).rowIs w.heap.size 48 4 (fRow 0 ⟨#[]⟩ ⟨#[]⟩ 0) := fRow_new w
  have hbq : Below w.heap.size w (w.alloc (.cells #[.int .i64 0, .string ⟨#[]⟩, .string ⟨#[]⟩, .int .i64 0] 48)) := (Below.refl _ _).alloc (Nat.le_refl _) _
  cases b
  · simp only [Bool.not_false] at h7'
    go_wp2_with (refine wpList_store_rowIs rfl 48 (.tmp 2) (.tmp 77) rfl w.heap.size rfl 48 4 (fRow 0 ⟨#[]⟩ ⟨#[]⟩ 0) (fRow 0 ⟨#[]⟩ ⟨#[]⟩ 0) hq rfl sizeFile (fun i _ => fRow_one _ _ _ _ i) ?_; intro w5 q5 b5 o5 s5)
    have hr := run_loadVar_rowIs (P := Try.prog) w5 w.heap.size 48 48 4 (fRow 0 ⟨#[]⟩ ⟨#[]⟩ 0) _ q5 Try.underlying48 rfl sizeFile
    refine bodyPost_ret (v := .tuple #[.agg (arrOf 4 (fRow 0 ⟨#[]⟩ ⟨#[]⟩ 0)), .bool false]) ?_ rfl ⟨rfl, ?_⟩
    · simp [results, Try.results16, asAddr, hr]
    · exact hbq.trans b5
  · simp only [Bool.not_true] at h7'
    go_wp2_with (refine wpList_store_rowIs rfl 48 (.tmp 2) (.tmp 85) rfl w.heap.size rfl 48 4 (fRow 0 ⟨#[]⟩ ⟨#[]⟩ 0) (fRow (N2 : Int) (f.extract 6 (6 + 2 * p)) (f.extract (6 + 2 * p + 2) (6 + 2 * p + 2 + L)) (S : Int)) hq rfl sizeFile (fun i _ => fRow_one _ _ _ _ i) ?_; intro w5 q5 b5 o5 s5)
    have hr := run_loadVar_rowIs (P := Try.prog) w5 w.heap.size 48 48 4 _ _ q5 Try.underlying48 rfl sizeFile
    refine bodyPost_ret (v := .tuple #[.agg (arrOf 4 (fRow (N2 : Int) (f.extract 6 (6 + 2 * p)) (f.extract (6 + 2 * p + 2) (6 + 2 * p + 2 + L)) (S : Int))), .bool true]) ?_ rfl ⟨rfl, ?_⟩
    · simp [results, Try.results16, asAddr, hr]
    · exact hbq.trans b5
set_option maxRecDepth 100000 in
set_option maxHeartbeats 1600000 in
theorem read_short (f : ByteArray) (w : World) (hf : f.size < 6) :
    Calls Try.prog 16 #[.string f] w fun e w' => e = .returned (.tuple #[fileV 0 ⟨#[]⟩ ⟨#[]⟩ 0, .bool false]) ∧ Below w.heap.size w w' := by
  have d0 : (f.size : Int) < 6 := by omega
  go_enter Try.func16, Try.ntmps16
  have hq : (w.alloc (.cells #[.int .i64 0, .string ⟨#[]⟩, .string ⟨#[]⟩, .int .i64 0] 48)).rowIs w.heap.size 48 4 (fRow 0 ⟨#[]⟩ ⟨#[]⟩ 0) := fRow_new w
  have hbq : Below w.heap.size w (w.alloc (.cells #[.int .i64 0, .string ⟨#[]⟩, .string ⟨#[]⟩, .int .i64 0] 48)) := (Below.refl _ _).alloc (Nat.le_refl _) _
  go_wp2_with (refine wpList_store_rowIs rfl 48 (.tmp 2) (.tmp 20) rfl w.heap.size rfl 48 4 (fRow 0 ⟨#[]⟩ ⟨#[]⟩ 0) (fRow 0 ⟨#[]⟩ ⟨#[]⟩ 0) hq rfl sizeFile (fun i _ => fRow_one _ _ _ _ i) ?_; intro w5 q5 b5 o5 s5)
  have hr := run_loadVar_rowIs (P := Try.prog) w5 w.heap.size 48 48 4 (fRow 0 ⟨#[]⟩ ⟨#[]⟩ 0) _ q5 Try.underlying48 rfl sizeFile
  refine bodyPost_ret (v := .tuple #[.agg (arrOf 4 (fRow 0 ⟨#[]⟩ ⟨#[]⟩ 0)), .bool false]) ?_ rfl ⟨rfl, ?_⟩
  · simp [results, Try.results16, asAddr, hr]
  · exact hbq.trans b5

set_option maxRecDepth 100000 in
set_option maxHeartbeats 1600000 in
theorem read_mark (f : ByteArray) (w : World) (hf : f.size ≤ maxLen) (h6 : 6 ≤ f.size) (h2 : f.extract 0 3 ≠ mk3) :
    Calls Try.prog 16 #[.string f] w fun e w' => e = .returned (.tuple #[fileV 0 ⟨#[]⟩ ⟨#[]⟩ 0, .bool false]) ∧ Below w.heap.size w w' := by
  unfold maxLen at hf
  have d0 : decide ((f.size : Int) < 6) = false := by simp; omega
  have hm : ((f.extract 0 3).toList == [71, 68, 1]) = false := by rw [mk3_beq]; simp [h2]
  clear h2
  go_enter Try.func16, Try.ntmps16
  have hq : (w.alloc (.cells #[.int .i64 0, .string ⟨#[]⟩, .string ⟨#[]⟩, .int .i64 0] 48)).rowIs w.heap.size 48 4 (fRow 0 ⟨#[]⟩ ⟨#[]⟩ 0) := fRow_new w
  have hbq : Below w.heap.size w (w.alloc (.cells #[.int .i64 0, .string ⟨#[]⟩, .string ⟨#[]⟩, .int .i64 0] 48)) := (Below.refl _ _).alloc (Nat.le_refl _) _
  go_wp2_with (refine wpList_store_rowIs rfl 48 (.tmp 2) (.tmp 20) rfl w.heap.size rfl 48 4 (fRow 0 ⟨#[]⟩ ⟨#[]⟩ 0) (fRow 0 ⟨#[]⟩ ⟨#[]⟩ 0) hq rfl sizeFile (fun i _ => fRow_one _ _ _ _ i) ?_; intro w5 q5 b5 o5 s5)
  have hr := run_loadVar_rowIs (P := Try.prog) w5 w.heap.size 48 48 4 (fRow 0 ⟨#[]⟩ ⟨#[]⟩ 0) _ q5 Try.underlying48 rfl sizeFile
  refine bodyPost_ret (v := .tuple #[.agg (arrOf 4 (fRow 0 ⟨#[]⟩ ⟨#[]⟩ 0)), .bool false]) ?_ rfl ⟨rfl, ?_⟩
  · simp [results, Try.results16, asAddr, hr]
  · exact hbq.trans b5

set_option maxRecDepth 100000 in
set_option maxHeartbeats 1600000 in
theorem read_cut (f : ByteArray) (p : Nat) (w : World) (hf : f.size ≤ maxLen) (h6 : 6 ≤ f.size) (hp : btn f 5 = p) (h2 : f.extract 0 3 = mk3) (h1 : f.size < 6 + 2 * p + 2) :
    Calls Try.prog 16 #[.string f] w fun e w' => e = .returned (.tuple #[fileV 0 ⟨#[]⟩ ⟨#[]⟩ 0, .bool false]) ∧ Below w.heap.size w w' := by
  unfold maxLen at hf
  have hb := get_btn f
  have hp1 := btn_lt f 5
  have R1 := hid (fun w => rnumE f 3 5 w (by omega) (by omega) (by omega))
  have d0 : decide ((f.size : Int) < 6) = false := by simp; omega
  have hm : ((f.extract 0 3).toList == [71, 68, 1]) = true := by rw [mk3_beq, h2]; simp
  rw [hp] at hp1
  have hb5 : ∀ (h : 5 < f.size), ((f[5]'h).toNat : Int) = (p : Int) := fun h => by rw [hb 5 h, hp]
  clear hb h2 hp
  have d4 : (f.size : Int) < 6 + 2 * (p : Int) + 2 := by omega
  go_enter Try.func16, Try.ntmps16
  go_wp2_with fail
  refine Calls.mono (R1.out _) ?_
  rintro e w1 ⟨rfl, k1⟩
  rw [k1]
  clear k1 w1
  have hq : (w.alloc (.cells #[.int .i64 0, .string ⟨#[]⟩, .string ⟨#[]⟩, .int .i64 0] 48)).rowIs w.heap.size 48 4 (fRow 0 ⟨#[]⟩ ⟨#[]⟩ 0) := fRow_new w
  have hbq : Below w.heap.size w (w.alloc (.cells #[.int .i64 0, .string ⟨#[]⟩, .string ⟨#[]⟩, .int .i64 0] 48)) := (Below.refl _ _).alloc (Nat.le_refl _) _
  go_wp2_with (refine wpList_store_rowIs rfl 48 (.tmp 2) (.tmp 36) rfl w.heap.size rfl 48 4 (fRow 0 ⟨#[]⟩ ⟨#[]⟩ 0) (fRow 0 ⟨#[]⟩ ⟨#[]⟩ 0) hq rfl sizeFile (fun i _ => fRow_one _ _ _ _ i) ?_; intro w5 q5 b5 o5 s5)
  have hr := run_loadVar_rowIs (P := Try.prog) w5 w.heap.size 48 48 4 (fRow 0 ⟨#[]⟩ ⟨#[]⟩ 0) _ q5 Try.underlying48 rfl sizeFile
  refine bodyPost_ret (v := .tuple #[.agg (arrOf 4 (fRow 0 ⟨#[]⟩ ⟨#[]⟩ 0)), .bool false]) ?_ rfl ⟨rfl, ?_⟩
  · simp [results, Try.results16, asAddr, hr]
  · exact hbq.trans b5

set_option maxRecDepth 100000 in
set_option maxHeartbeats 1600000 in
theorem read_bad (f : ByteArray) (p L : Nat) (w : World) (hf : f.size ≤ maxLen) (hp : btn f 5 = p) (h2 : f.extract 0 3 = mk3) (h1 : 6 + 2 * p + 2 ≤ f.size) (hL : num f (6 + 2 * p) 2 = L)
    (h3 : ¬ (isTB (f.extract 6 (6 + 2 * p)) = true ∧ 1 ≤ L ∧ L ≤ 500 ∧ f.size = 6 + 2 * p + 2 + L + 4)) :
    Calls Try.prog 16 #[.string f] w fun e w' => e = .returned (.tuple #[fileV 0 ⟨#[]⟩ ⟨#[]⟩ 0, .bool false]) ∧ Below w.heap.size w w' := by
  have hLlt := num_lt f (6 + 2 * p) 2
  rw [hL] at hLlt
  unfold maxLen at hf
  have hb := get_btn f
  have hp1 := btn_lt f 5
  have R1 := hid (fun w => rnumE f 3 5 w (by omega) (by omega) (by omega))
  have d0 : decide ((f.size : Int) < 6) = false := by simp; omega
  have hm : ((f.extract 0 3).toList == [71, 68, 1]) = true := by rw [mk3_beq, h2]; simp
  rw [hp] at hp1
  have hb5 : ∀ (h : 5 < f.size), ((f[5]'h).toNat : Int) = (p : Int) := fun h => by rw [hb 5 h, hp]
  clear hb h2 hp
  have R2 := hid (fun w => rnumE f (6 + 2 * p) (6 + 2 * p + 2) w (by omega) (by omega) (by omega))
  have HT := hid (fun w => isTable_any (f.extract 6 (6 + 2 * p)) w (by rw [ext_size _ _ _ (by omega)]; unfold maxLen; omega))
  rw [show 6 + 2 * p + 2 - (6 + 2 * p) = 2 from by omega, hL] at R2
  clear hL
  have d4 : decide ((f.size : Int) < 6 + 2 * (p : Int) + 2) = false := by simp; omega
  cases hT : isTB (f.extract 6 (6 + 2 * p))
  · rw [hT] at HT
    clear h3 hT
    go_enter Try.func16, Try.ntmps16
    go_wp2_with fail
    refine Calls.mono (R1.out _) ?_
    rintro e w1 ⟨rfl, k1⟩
    rw [k1]
    clear k1 w1
    go_wp2_with fail
    refine Calls.mono (R2.out _) ?_
    rintro e w1 ⟨rfl, k1⟩
    rw [k1]
    clear k1 w1
    go_wp2_with fail
    refine Calls.mono (HT.out _) ?_
    rintro e w1 ⟨rfl, k1⟩
    rw [k1]
    clear k1 w1
    have hq : (w.alloc (.cells #[.int .i64 0, .string ⟨#[]⟩, .string ⟨#[]⟩, .int .i64 0] 48)).rowIs w.heap.size 48 4 (fRow 0 ⟨#[]⟩ ⟨#[]⟩ 0) := fRow_new w
    have hbq : Below w.heap.size w (w.alloc (.cells #[.int .i64 0, .string ⟨#[]⟩, .string ⟨#[]⟩, .int .i64 0] 48)) := (Below.refl _ _).alloc (Nat.le_refl _) _
    go_wp2_with (refine wpList_store_rowIs rfl 48 (.tmp 2) (.tmp 66) rfl w.heap.size rfl 48 4 (fRow 0 ⟨#[]⟩ ⟨#[]⟩ 0) (fRow 0 ⟨#[]⟩ ⟨#[]⟩ 0) hq rfl sizeFile (fun i _ => fRow_one _ _ _ _ i) ?_; intro w5 q5 b5 o5 s5)
    have hr := run_loadVar_rowIs (P := Try.prog) w5 w.heap.size 48 48 4 (fRow 0 ⟨#[]⟩ ⟨#[]⟩ 0) _ q5 Try.underlying48 rfl sizeFile
    refine bodyPost_ret (v := .tuple #[.agg (arrOf 4 (fRow 0 ⟨#[]⟩ ⟨#[]⟩ 0)), .bool false]) ?_ rfl ⟨rfl, ?_⟩
    · simp [results, Try.results16, asAddr, hr]
    · exact hbq.trans b5
  · rw [hT] at HT
    rw [hT] at h3
    by_cases c1 : L < 1
    · have c1' : (L : Int) < 1 := by omega
      clear h3 hT
      go_enter Try.func16, Try.ntmps16
      go_wp2_with fail
      refine Calls.mono (R1.out _) ?_
      rintro e w1 ⟨rfl, k1⟩
      rw [k1]
      clear k1 w1
      go_wp2_with fail
      refine Calls.mono (R2.out _) ?_
      rintro e w1 ⟨rfl, k1⟩
      rw [k1]
      clear k1 w1
      go_wp2_with fail
      refine Calls.mono (HT.out _) ?_
      rintro e w1 ⟨rfl, k1⟩
      rw [k1]
      clear k1 w1
      have hq : (w.alloc (.cells #[.int .i64 0, .string ⟨#[]⟩, .string ⟨#[]⟩, .int .i64 0] 48)).rowIs w.heap.size 48 4 (fRow 0 ⟨#[]⟩ ⟨#[]⟩ 0) := fRow_new w
      have hbq : Below w.heap.size w (w.alloc (.cells #[.int .i64 0, .string ⟨#[]⟩, .string ⟨#[]⟩, .int .i64 0] 48)) := (Below.refl _ _).alloc (Nat.le_refl _) _
      go_wp2_with (refine wpList_store_rowIs rfl 48 (.tmp 2) (.tmp 66) rfl w.heap.size rfl 48 4 (fRow 0 ⟨#[]⟩ ⟨#[]⟩ 0) (fRow 0 ⟨#[]⟩ ⟨#[]⟩ 0) hq rfl sizeFile (fun i _ => fRow_one _ _ _ _ i) ?_; intro w5 q5 b5 o5 s5)
      have hr := run_loadVar_rowIs (P := Try.prog) w5 w.heap.size 48 48 4 (fRow 0 ⟨#[]⟩ ⟨#[]⟩ 0) _ q5 Try.underlying48 rfl sizeFile
      refine bodyPost_ret (v := .tuple #[.agg (arrOf 4 (fRow 0 ⟨#[]⟩ ⟨#[]⟩ 0)), .bool false]) ?_ rfl ⟨rfl, ?_⟩
      · simp [results, Try.results16, asAddr, hr]
      · exact hbq.trans b5
    · have c1' : decide ((L : Int) < 1) = false := by simp; omega
      by_cases c2 : 500 < L
      · have c2' : (500 : Int) < (L : Int) := by omega
        clear h3 hT
        go_enter Try.func16, Try.ntmps16
        go_wp2_with fail
        refine Calls.mono (R1.out _) ?_
        rintro e w1 ⟨rfl, k1⟩
        rw [k1]
        clear k1 w1
        go_wp2_with fail
        refine Calls.mono (R2.out _) ?_
        rintro e w1 ⟨rfl, k1⟩
        rw [k1]
        clear k1 w1
        go_wp2_with fail
        refine Calls.mono (HT.out _) ?_
        rintro e w1 ⟨rfl, k1⟩
        rw [k1]
        clear k1 w1
        have hq : (w.alloc (.cells #[.int .i64 0, .string ⟨#[]⟩, .string ⟨#[]⟩, .int .i64 0] 48)).rowIs w.heap.size 48 4 (fRow 0 ⟨#[]⟩ ⟨#[]⟩ 0) := fRow_new w
        have hbq : Below w.heap.size w (w.alloc (.cells #[.int .i64 0, .string ⟨#[]⟩, .string ⟨#[]⟩, .int .i64 0] 48)) := (Below.refl _ _).alloc (Nat.le_refl _) _
        go_wp2_with (refine wpList_store_rowIs rfl 48 (.tmp 2) (.tmp 66) rfl w.heap.size rfl 48 4 (fRow 0 ⟨#[]⟩ ⟨#[]⟩ 0) (fRow 0 ⟨#[]⟩ ⟨#[]⟩ 0) hq rfl sizeFile (fun i _ => fRow_one _ _ _ _ i) ?_; intro w5 q5 b5 o5 s5)
        have hr := run_loadVar_rowIs (P := Try.prog) w5 w.heap.size 48 48 4 (fRow 0 ⟨#[]⟩ ⟨#[]⟩ 0) _ q5 Try.underlying48 rfl sizeFile
        refine bodyPost_ret (v := .tuple #[.agg (arrOf 4 (fRow 0 ⟨#[]⟩ ⟨#[]⟩ 0)), .bool false]) ?_ rfl ⟨rfl, ?_⟩
        · simp [results, Try.results16, asAddr, hr]
        · exact hbq.trans b5
      · have c2' : decide ((500 : Int) < (L : Int)) = false := by simp; omega
        have c3 : ((f.size : Int) != 6 + 2 * (p : Int) + 2 + (L : Int) + 4) = true := by
          simp only [bne_iff_ne, ne_eq]
          intro e
          exact h3 ⟨rfl, by omega, by omega, by omega⟩
        clear h3 hT
        go_enter Try.func16, Try.ntmps16
        go_wp2_with fail
        refine Calls.mono (R1.out _) ?_
        rintro e w1 ⟨rfl, k1⟩
        rw [k1]
        clear k1 w1
        go_wp2_with fail
        refine Calls.mono (R2.out _) ?_
        rintro e w1 ⟨rfl, k1⟩
        rw [k1]
        clear k1 w1
        go_wp2_with fail
        refine Calls.mono (HT.out _) ?_
        rintro e w1 ⟨rfl, k1⟩
        rw [k1]
        clear k1 w1
        have hq : (w.alloc (.cells #[.int .i64 0, .string ⟨#[]⟩, .string ⟨#[]⟩, .int .i64 0] 48)).rowIs w.heap.size 48 4 (fRow 0 ⟨#[]⟩ ⟨#[]⟩ 0) := fRow_new w
        have hbq : Below w.heap.size w (w.alloc (.cells #[.int .i64 0, .string ⟨#[]⟩, .string ⟨#[]⟩, .int .i64 0] 48)) := (Below.refl _ _).alloc (Nat.le_refl _) _
        go_wp2_with (refine wpList_store_rowIs rfl 48 (.tmp 2) (.tmp 66) rfl w.heap.size rfl 48 4 (fRow 0 ⟨#[]⟩ ⟨#[]⟩ 0) (fRow 0 ⟨#[]⟩ ⟨#[]⟩ 0) hq rfl sizeFile (fun i _ => fRow_one _ _ _ _ i) ?_; intro w5 q5 b5 o5 s5)
        have hr := run_loadVar_rowIs (P := Try.prog) w5 w.heap.size 48 48 4 (fRow 0 ⟨#[]⟩ ⟨#[]⟩ 0) _ q5 Try.underlying48 rfl sizeFile
        refine bodyPost_ret (v := .tuple #[.agg (arrOf 4 (fRow 0 ⟨#[]⟩ ⟨#[]⟩ 0)), .bool false]) ?_ rfl ⟨rfl, ?_⟩
        · simp [results, Try.results16, asAddr, hr]
        · exact hbq.trans b5

/-- The sum of a file; 0, if it is none. -/
def fSum (f : ByteArray) : Int := if pOkB f = true then (wSum (f.extract 0 (pE f)) : Nat) else 0
theorem fSum_yes {f : ByteArray} (h : pOk f) : fSum f = (wSum (f.extract 0 (pE f)) : Nat) := by unfold fSum; rw [if_pos ((pOkB_iff f).2 h)]
theorem fSum_no {f : ByteArray} (h : ¬ pOk f) : fSum f = 0 := by unfold fSum; rw [if_neg (fun q => h ((pOkB_iff f).1 q))]
/-- Read, by what a file is. -/
theorem fileRead_any (f : ByteArray) (w : World) (hf : f.size ≤ maxLen) :
    Calls Try.prog 16 #[.string f] w fun e w' => e = .returned (.tuple #[fileV (pAns f).1 (pAns f).2.1 (pAns f).2.2.1 (fSum f), .bool (decide ((pAns f).2.2.2 = 0))]) ∧ Below w.heap.size w w' := by
  have hT : pT f = 6 + 2 * btn f 5 := rfl
  have hE : pE f = pT f + 2 + pL f := rfl
  by_cases h : pOk f
  · rw [pAns_yes h, fSum_yes h]
    obtain ⟨h1, h2, h3, h4, h5, h6, h7⟩ := h
    have r := read_yes f (btn f 5) (pL f) w hf rfl rfl (by omega) h2 h3 h4 h5 true (by rw [beq_iff_eq]; exact h7)
    exact r
  · rw [pAns_no h, fSum_no h]
    show Calls Try.prog 16 #[.string f] w fun e w' => e = .returned (.tuple #[fileV 0 ⟨#[]⟩ ⟨#[]⟩ 0, .bool false]) ∧ Below w.heap.size w w'
    by_cases c0 : f.size < 6
    · exact read_short f w c0
    · by_cases c1 : f.extract 0 3 = mk3
      · by_cases c2 : f.size < 6 + 2 * btn f 5 + 2
        · exact read_cut f (btn f 5) w hf (by omega) rfl c1 c2
        · by_cases c3 : isTB (f.extract 6 (6 + 2 * btn f 5)) = true ∧ 1 ≤ pL f ∧ pL f ≤ 500 ∧ f.size = 6 + 2 * btn f 5 + 2 + pL f + 4
          · obtain ⟨a1, a2, a3, a4⟩ := c3
            have hne : ¬ num f (pE f) 4 = wSum (f.extract 0 (pE f)) := fun h7 => h ⟨by omega, c1, a1, a2, a3, by omega, h7⟩
            exact read_yes f (btn f 5) (pL f) w hf rfl rfl (by omega) c1 a1 a2 a3 false (by rw [beq_eq_false_iff_ne]; exact hne)
          · exact read_bad f (btn f 5) (pL f) w hf rfl c1 (by omega) rfl c3
      · exact read_mark f w hf (by omega) c1

/-! ### P9: the walks of Parse. -/
/-- What Parse hands back. -/
def parV (a : Int × ByteArray × ByteArray × Int) : Value := .tuple #[.int .i64 a.1, .string a.2.1, .string a.2.2.1, .int .i64 a.2.2.2]
theorem ret_par {a b : Int × ByteArray × ByteArray × Int} (h : a = b) : Ending.returned (parV a) = .returned (parV b) := by rw [h]
theorem fileV_is (i : Int) (t c : ByteArray) (s : Int) : fileV i t c s = .agg (arrOf 4 (fRow i t c s)) := rfl

set_option maxRecDepth 100000 in
set_option maxHeartbeats 1600000 in
theorem parse_any (f : ByteArray) (w : World) (hf : f.size ≤ maxLen) :
    Calls Try.prog 6 #[.string f] w fun e w' => e = .returned (parV (pAns f)) ∧ Below w.heap.size w w' := by
  have HR := hid (fileRead_any f w hf)
  by_cases h : pOk f
  · rw [fSum_yes h, pAns_yes h] at HR
    rw [pAns_yes h]
    generalize ((wSum (f.extract 0 (pE f)) : Nat) : Int) = S at *
    simp only [decide_true] at HR
    generalize (num f 3 2 : Int) = I at *
    generalize f.extract 6 (pT f) = T at *
    generalize f.extract (pT f + 2) (pE f) = C at *
    clear h
    go_enter Try.func6, Try.ntmps6
    go_wp2_with fail
    refine Calls.mono HR.out ?_
    rintro e w1 ⟨rfl, b1⟩
    have hq := fRow_new w1
    go_wp2_with (refine wpList_store_rowIs rfl 48 (.tmp 6) (.tmp 11) rfl w1.heap.size rfl 48 4 (fRow 0 ⟨#[]⟩ ⟨#[]⟩ 0) (fRow I T C S) hq rfl sizeFile (fun i _ => fRow_one _ _ _ _ i) ?_; intro w5 q5 b5 o5 s5)
    have c0 : w5.cell? ⟨w1.heap.size, 0, none⟩ = some (.int .i64 I) := World.rowIs.cell q5 (i := 0) (by omega)
    have c1 : w5.cell? ⟨w1.heap.size, 1, none⟩ = some (.string T) := World.rowIs.cell q5 (i := 1) (by omega)
    have c2 : w5.cell? ⟨w1.heap.size, 2, none⟩ = some (.string C) := World.rowIs.cell q5 (i := 2) (by omega)
    go_quiet (fail)
    go_wp2
    refine bodyPost_ret (v := parV (I, T, C, 0)) ?_ rfl ⟨rfl, ?_⟩
    · simp [results, Try.results6, parV]
    · exact Below.drewN ((b1.alloc b1.size _).trans (b5.mono b1.size)) _
  · rw [fSum_no h, pAns_no h] at HR
    rw [pAns_no h]
    have hd : decide ((6 : Int) = 0) = false := rfl
    simp only [hd] at HR
    clear h hd
    go_enter Try.func6, Try.ntmps6
    go_wp2_with fail
    refine Calls.mono HR.out ?_
    rintro e w1 ⟨rfl, b1⟩
    have hq := fRow_new w1
    go_wp2_with (refine wpList_store_rowIs rfl 48 (.tmp 6) (.tmp 11) rfl w1.heap.size rfl 48 4 (fRow 0 ⟨#[]⟩ ⟨#[]⟩ 0) (fRow 0 ⟨#[]⟩ ⟨#[]⟩ 0) hq rfl sizeFile (fun i _ => fRow_one _ _ _ _ i) ?_; intro w5 q5 b5 o5 s5)
    refine bodyPost_ret (v := parV (0, ⟨#[]⟩, ⟨#[]⟩, 6)) ?_ rfl ⟨rfl, ?_⟩
    · simp [results, Try.results6, parV]
    · exact (b1.alloc b1.size _).trans (b5.mono b1.size)

theorem par_cases (f : ByteArray) : (pAns f = (0, ⟨#[]⟩, ⟨#[]⟩, 6)) ∨ ((pAns f).2.2.2 = 0 ∧ wrAns (pAns f).1 (pAns f).2.1 (pAns f).2.2.1 = (f, 0) ∧ 12 < f.size ∧ (pAns f).2.1.size ≤ maxLen ∧ (pAns f).2.2.1.size ≤ maxLen) := by
  by_cases h : pOk f
  · right
    have hb := pOk_big h
    have e := (parse_iff hb.2 (by omega)).1 h
    have h6 := h.2.2.2.2.2.1
    have hE : pE f = pT f + 2 + pL f := rfl
    have h5 := h.2.2.2.2.1
    have hp := btn_lt f 5
    have hT : pT f = 6 + 2 * btn f 5 := rfl
    rw [pAns_yes h]
    rw [show f.size - 4 = pE f from by omega] at e
    refine ⟨rfl, e, by omega, ?_, ?_⟩
    · show (f.extract 6 (pT f)).size ≤ maxLen
      rw [ext_size _ _ _ (by omega)]; unfold maxLen; omega
    · show (f.extract (pT f + 2) (pE f)).size ≤ maxLen
      rw [ext_size _ _ _ (by omega)]; unfold maxLen; omega
  · left; exact pAns_no h
end Go.Proofs.Ytnconbpneimjiaa

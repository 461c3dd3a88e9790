/-
  P5, P6: the walks of the document's found, value.
-/
import Derived.Test.YtaofgdgfmdieeaaRefSlots
import Derived.Test.YtaofgdgfmdieeaaPlain
namespace Go.Proofs.Ytaofgdgfmdieeaa
open Go.RowKit Go.PlainAid

/-- The slots lie in block g. -/
def Sls (w : World) (g : Nat) (t : ByteArray) : Prop := g < w.heap.size ∧ ∀ k, k < 64 → w.cell? ⟨g, k * 3, none⟩ = some (.int .i64 (tOwn t k : Int)) ∧ w.cell? ⟨g, k * 3 + 1, none⟩ = some (.int .i64 (tNum t k : Int)) ∧ w.cell? ⟨g, k * 3 + 2, none⟩ = some (.int .i64 (kOf (tNum t k) : Int))
theorem Sls.below {w w' : World} {g : Nat} {t : ByteArray} (h : Sls w g t) (hb : Below w.heap.size w w') : Sls w' g t := by
  refine ⟨Nat.lt_of_lt_of_le h.1 hb.size, fun k hk => ?_⟩
  obtain ⟨a, b, c⟩ := h.2 k hk
  exact ⟨(hb.cell (p := ⟨g, k * 3, none⟩) h.1).trans a, (hb.cell (p := ⟨g, k * 3 + 1, none⟩) h.1).trans b, (hb.cell (p := ⟨g, k * 3 + 2, none⟩) h.1).trans c⟩
theorem Sls.of_own {w : World} {base : Nat} {t : ByteArray} {v : Value} (h : w.ownsRow base 74 3 v 64 (slotCells t 64)) : ∃ g cap, v = .slice (some ⟨g, 0, none⟩) 64 cap ∧ Sls w g t := by
  have hl := own_lt h
  rcases h.2 with ⟨_, h0⟩ | ⟨g, cap, cur, rfl, hg, hgb, _⟩
  · omega
  · refine ⟨g, cap, rfl, hl g rfl, fun k hk => ⟨?_, ?_, ?_⟩⟩
    · rw [World.ownsRow.cellAt h (k * 3) (by omega)]
      have := slotCells_get t 64 k hk 0 (by omega)
      rw [Nat.add_zero] at this
      rw [this]; rfl
    · rw [World.ownsRow.cellAt h (k * 3 + 1) (by omega), slotCells_get t 64 k hk 1 (by omega)]; rfl
    · rw [World.ownsRow.cellAt h (k * 3 + 2) (by omega), slotCells_get t 64 k hk 2 (by omega)]; rfl

theorem pow_bd {K : Nat} (h : K ≤ 6) : 1 ≤ (2 : Int) ^ K ∧ (2 : Int) ^ K ≤ 64 := by
  match K, h with
  | 0, _ => exact of_decide_eq_true rfl
  | 1, _ => exact of_decide_eq_true rfl
  | 2, _ => exact of_decide_eq_true rfl
  | 3, _ => exact of_decide_eq_true rfl
  | 4, _ => exact of_decide_eq_true rfl
  | 5, _ => exact of_decide_eq_true rfl
  | 6, _ => exact of_decide_eq_true rfl
theorem low_bd {n q : Nat} (h1 : 1 ≤ q) (h3 : q ≤ n ∧ n < 2 * q) (h2 : q ≤ 64) : 64 ≤ (n : Int) * 2 ^ kOf n ∧ (n : Int) * 2 ^ kOf n ≤ 127 := by
  have hk := kOf_cases (n := n) (by omega)
  generalize kOf n = k at *
  rcases hk with ⟨rfl, a⟩ | ⟨rfl, a, c⟩ | ⟨rfl, a, c⟩ | ⟨rfl, a, c⟩ | ⟨rfl, a, c⟩ | ⟨rfl, a, c⟩ | ⟨rfl, a⟩
  all_goals
    simp only [Int.reducePow]
    omega
theorem match_iff (m N K : Nat) : m / 2 ^ K = N ↔ ((N * 2 ^ K : Nat) : Int) ≤ (m : Int) ∧ (m : Int) < ((N * 2 ^ K + 2 ^ K : Nat) : Int) := by
  have hp : 0 < 2 ^ K := Nat.two_pow_pos K
  have e1 := Nat.div_add_mod m (2 ^ K)
  have e2 := Nat.mod_lt m hp
  constructor
  · rintro rfl
    rw [Nat.mul_comm (m / 2 ^ K)]
    omega
  · rintro ⟨h1, h2⟩
    refine Nat.div_eq_of_lt_le (by omega) ?_
    rw [Nat.add_mul, Nat.one_mul]
    omega

set_option maxRecDepth 100000 in
set_option maxHeartbeats 800000 in
theorem found_yes (t : ByteArray) (g cap v a s : Nat) (w : World) (h : Sls w g t) (ht : TOk t) (ha : a < 64) (hs : s < 64) (h1 : tOwn t s = v) (h2 : (64 + a) / 2 ^ kOf (tNum t s) = tNum t s) (h3 : ∀ j, j < s → tOwn t j = v → (64 + a) / 2 ^ kOf (tNum t j) ≠ tNum t j) :
    Calls Try.prog 70 #[.slice (some ⟨g, 0, none⟩) 64 cap, .int .i64 v, .int .i64 a] w fun e w' => e = .returned (.int .i64 (s : Int)) ∧ ∃ n, w' = w.drewN n := by
  have H1 := hid h1
  have H2 := hid h2
  have H3 := hid h3
  have HT := hid ht
  clear h1 h2 h3 ht
  go_enter Try.func70, Try.ntmps70
  go_wp2
  go_loopw [7, 8] (fun i _ wr => ∃ k n : Nat, k ≤ s ∧ wr = w.drewN n ∧ i = .int .i64 k) (fun i _ _ => 64 - (intOf i).toNat)
  case atStart => exact ⟨0, 0, Nat.zero_le _, rfl, rfl⟩
  case round =>
    obtain ⟨k, n, hk, rfl, rfl⟩ := hrel
    have hk64 : k < 64 := by omega
    obtain ⟨c1, c2, c3⟩ := h.2 k hk64
    have hkc := kOf_cases (n := tNum t k) (by have := HT.out.num_bd hk64; have := HT.out.one k hk64; omega)
    have hn1 := HT.out.num_bd hk64
    have hn2 := HT.out.one k hk64
    have hn3 := HT.out.le (tOwn t k)
    have hK : kOf (tNum t k) ≤ 6 := by omega
    have hp := pow_bd hK
    have hl := low_bd hn2 hn1 hn3
    have HM := hid (match_iff (64 + a) (tNum t k) (kOf (tNum t k)))
    clear hkc hn1 hn3
    have hnN : (tNum t k : Int) ≤ 127 := by
      have := HT.out.num_bd hk64
      have := HT.out.le (tOwn t k)
      omega
    have H3k := hid (fun (hlt : k < s) (ho : tOwn t k = v) => H3.out k hlt ho)
    have H2k := hid (fun (e : k = s) => show (64 + a) / 2 ^ kOf (tNum t k) = tNum t k from by rw [e]; exact H2.out)
    have H1k := hid (fun (e : k = s) => show tOwn t k = v from by rw [e]; exact H1.out)
    generalize tNum t k = N at *
    generalize kOf N = K at *
    by_cases c1 : tOwn t k = v
    · have e1 : ((tOwn t k : Int) == (v : Int)) = true := by simp [c1]
      have HC1 := hid c1
      clear c1
      by_cases c2 : (N : Int) * 2 ^ K ≤ 64 + (a : Int)
      · by_cases c3 : 64 + (a : Int) < (N : Int) * 2 ^ K + 2 ^ K
        · have HE := hid (show k = s from by
            apply Nat.le_antisymm hk
            apply Nat.le_of_not_lt
            intro hlt
            exact H3k.out hlt HC1.out (HM.out.2 ⟨by push_cast; omega, by push_cast; omega⟩))
          clear HM H1k H2k H3k
          go_wp2_with fail
          go_quiet (fail)
          go_wp2
          go_ret
          exact ⟨congrArg (fun q : Nat => Ending.returned (.int .i64 (q : Int))) HE.out, _, rfl⟩
        · have HE := hid (show k ≠ s from fun e => by
            have := HM.out.1 (H2k.out e)
            push_cast at this
            omega)
          have c3' : decide (64 + (a : Int) < (N : Int) * 2 ^ K + 2 ^ K) = false := by simp; omega
          clear HM H1k H2k H3k
          go_wp2_with fail
          go_quiet (fail)
          go_wp2
          go_roundw
          case rel => exact ⟨k + 1, _, by have := HE.out; omega, rfl, by go_num⟩
          case measure => simp [intOf]; omega
      · have HE := hid (show k ≠ s from fun e => by
          have := HM.out.1 (H2k.out e)
          push_cast at this
          omega)
        have c2' : decide ((N : Int) * 2 ^ K ≤ 64 + (a : Int)) = false := by simp; omega
        clear HM H1k H2k H3k
        go_wp2_with fail
        go_quiet (fail)
        go_wp2
        go_roundw
        case rel => exact ⟨k + 1, _, by have := HE.out; omega, rfl, by go_num⟩
        case measure => simp [intOf]; omega
    · have e1 : ((tOwn t k : Int) == (v : Int)) = false := by simp; omega
      have HE := hid (show k ≠ s from fun e => c1 (H1k.out e))
      clear HM H1k H2k H3k c1
      go_wp2_with fail
      go_quiet (fail)
      go_wp2
      go_roundw
      case rel => exact ⟨k + 1, _, by have := HE.out; omega, rfl, by go_num⟩
      case measure => simp [intOf]; omega

set_option maxRecDepth 100000 in
set_option maxHeartbeats 800000 in
theorem found_no (t : ByteArray) (g cap v a : Nat) (w : World) (h : Sls w g t) (ht : TOk t) (_ha : a < 64) (hno : ∀ s, s < 64 → tOwn t s ≠ v) :
    Calls Try.prog 70 #[.slice (some ⟨g, 0, none⟩) 64 cap, .int .i64 v, .int .i64 a] w fun e w' => e = .returned (.int .i64 (-1)) ∧ ∃ n, w' = w.drewN n := by
  have HN := hid hno
  have HT := hid ht
  clear hno ht
  go_enter Try.func70, Try.ntmps70
  go_wp2
  go_loopw [7, 8] (fun i _ wr => ∃ k n : Nat, k ≤ 64 ∧ wr = w.drewN n ∧ i = .int .i64 k) (fun i _ _ => 64 - (intOf i).toNat)
  case atStart => exact ⟨0, 0, Nat.zero_le _, rfl, rfl⟩
  case round =>
    obtain ⟨k, n, hk, rfl, rfl⟩ := hrel
    by_cases hk64 : k < 64
    · obtain ⟨c1, c2, c3⟩ := h.2 k hk64
      have hkc := kOf_cases (n := tNum t k) (by have := HT.out.num_bd hk64; have := HT.out.one k hk64; omega)
      have hn1 := HT.out.num_bd hk64
      have hn2 := HT.out.one k hk64
      have hn3 := HT.out.le (tOwn t k)
      have hK : kOf (tNum t k) ≤ 6 := by omega
      have hp := pow_bd hK
      have hl := low_bd hn2 hn1 hn3
      have hnN : (tNum t k : Int) ≤ 127 := by omega
      have hov := HN.out k hk64
      have e1 : ((tOwn t k : Int) == (v : Int)) = false := by simp; omega
      clear hkc hn1 hn3 hn2 hov
      generalize tNum t k = N at *
      generalize kOf N = K at *
      go_wp2_with fail
      go_quiet (fail)
      go_wp2
      go_roundw
      case rel => exact ⟨k + 1, _, by omega, rfl, by go_num⟩
      case measure => simp [intOf]; omega
    · go_wp2
      go_ret
      exact ⟨rfl, n, rfl⟩

theorem valF_bd {f : Nat → Nat} (hf : ∀ i, f i < 2) (a : Nat) {n : Nat} (hn : n ≤ 8) : valF f a n ≤ 255 := by
  have h1 := valF_lt hf a n
  have h2 : 2 ^ n ≤ 2 ^ 8 := Nat.pow_le_pow_right (by omega) hn
  omega

set_option maxRecDepth 100000 in
set_option maxHeartbeats 400000 in
theorem value_any (b : ByteArray) (f : Nat → Nat) (a n : Nat) (w : World) (hf : ∀ i, f i < 2) (hb1 : ∀ i, i < b.size → btn b i = 48 + f i) (hb2 : ∀ i, b.size ≤ i → f i = 0) (ha : a ≤ 100000) (hn : n ≤ 8) (hbs : b.size ≤ maxLen) :
    Calls Try.prog 45 #[.string b, .int .i64 a, .int .i64 n] w fun e w' => e = .returned (.int .i64 (valF f a n : Int)) ∧ w' = w := by
  unfold maxLen at hbs
  have hb := get_btn b
  have HF := hid hf
  have HB1 := hid hb1
  have HB2 := hid hb2
  clear hf hb1 hb2
  go_enter Try.func45, Try.ntmps45
  go_wp2
  go_loop [7, 8] (fun v i => ∃ j : Nat, j ≤ n ∧ i = .int .i64 ((a : Int) + (j : Int)) ∧ v = .int .i64 (valF f a j : Int)) (fun _ i => a + n - (intOf i).toNat)
  case atStart => exact ⟨0, Nat.zero_le _, by simp, rfl⟩
  case round =>
    obtain ⟨j, hj, rfl, rfl⟩ := hrel
    have hv := valF_bd HF.out a (n := j) (by omega)
    by_cases hlt : j < n
    · have HV := hid (show valF f a (j + 1) = 2 * valF f a j + f (a + j) from rfl)
      have hfj := HF.out (a + j)
      generalize valF f a j = x at *
      by_cases c1 : a + j < b.size
      · have e := HB1.out (a + j) c1
        by_cases c2 : f (a + j) = 1
        · have c2' : ((btn b (a + j) : Int) == 49) = true := by simp; omega
          have HC := hid c2
          clear c2 e
          go_wp2
          go_round
          case rel => exact ⟨j + 1, by omega, by go_num, by rw [HV.out, HC.out]; go_num⟩
          case measure => simp [intOf]; omega
        · have c2' : ((btn b (a + j) : Int) == 49) = false := by simp; omega
          have HC := hid (show f (a + j) = 0 from by omega)
          clear c2 e
          go_wp2
          go_round
          case rel => exact ⟨j + 1, by omega, by go_num, by rw [HV.out, HC.out]; go_num⟩
          case measure => simp [intOf]; omega
      · have HC := hid (HB2.out (a + j) (by omega))
        have c1' : decide ((a : Int) + (j : Int) < (b.size : Int)) = false := by simp; omega
        go_wp2
        go_round
        case rel => exact ⟨j + 1, by omega, by go_num, by rw [HV.out, HC.out]; go_num⟩
        case measure => simp [intOf]; omega
    · have HJ := hid (show j = n from by omega)
      go_wp2
      go_ret
      exact ⟨ret_int' (by rw [HJ.out]), rfl⟩
end Go.Proofs.Ytaofgdgfmdieeaa

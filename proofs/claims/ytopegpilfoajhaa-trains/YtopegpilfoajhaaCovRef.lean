/-
  P7: the walks of the document's firsts, stands, score.
-/
import Derived.Test.YtopegpilfoajhaaCovFind
import Derived.BigQuiet
namespace Go.Proofs.Ytopegpilfoajhaa
open Go.RowKit Go.PlainAid

set_option maxRecDepth 100000 in
set_option maxHeartbeats 800000 in
theorem firsts_any (s : ByteArray) (d : Nat) (w : World) (hs : s.size ≤ 800) (hd : d ≤ s.size) :
    Calls Try.prog 51 #[.string s, .int .i64 d] w fun e w' => ∃ v, e = .returned v ∧ w'.ownsRow w.heap.size 3 1 v (s.size - d + 1) (rowF s d (s.size - d + 1)) ∧ Below w.heap.size w w' := by
  obtain ⟨i0, hi, hz0, hz1, hz2⟩ := info_parts Try.infoInt
  go_enter Try.func51, Try.ntmps51
  go_wp2
  go_loopw [5, 6, 7] (fun v i _ wr => ∃ n : Nat, n ≤ s.size - d + 1 ∧ i = .int .i64 n ∧ wr.ownsRow w.heap.size 3 1 v n (rowF s d n) ∧ Below w.heap.size w wr) (fun _ i _ _ => s.size - d + 1 - (intOf i).toNat)
  case atStart => exact ⟨0, Nat.zero_le _, rfl, World.ownsRow_nil _ _ _ _, Below.refl _ _⟩
  case round =>
    obtain ⟨n, hn, rfl, hown, hbel⟩ := hrel
    by_cases hlt : n + d ≤ s.size
    · have hcond : (n : Int) + (d : Int) ≤ (s.size : Int) := by omega
      have hcondD : decide ((n : Int) + (d : Int) ≤ (s.size : Int)) = true := by simp; omega
      have hf := fs_spec s d n
      have hfn := hf.1
      have HF2 := hid hf.2.1
      have HF3 := hid hf.2.2
      have HRF := hid (range_app (fun i => Value.int .i64 (fs s d i : Int)) n)
      have HOW := hid hown
      have HBL := hid hbel
      have hszr := hbel.size
      clear hf hown hbel
      generalize fs s d n = F at *
      obtain ⟨w2, rfl⟩ : ∃ w2, w2 = wr := ⟨wr, rfl⟩
      go_wp2_with fail
      go_loopw [7] (fun v wi => ∃ j m : Nat, j ≤ F ∧ v = .int .i64 j ∧ wi = w2.drewN m) (fun v _ => F - (intOf v).toNat)
      case atStart => exact ⟨0, 0, Nat.zero_le _, rfl, rfl⟩
      case round =>
        obtain ⟨j, m, hj, rfl, rfl⟩ := hrel
        have hbq := text_beq (s.extract j (j + d)) (s.extract n (n + d))
        have hj1 : (j : Int) + (d : Int) ≤ (s.size : Int) := by omega
        have hj0 : (j : Int) ≤ (j : Int) + (d : Int) := by omega
        have hn0 : (n : Int) ≤ (n : Int) + (d : Int) := by omega
        by_cases hjF : j < F
        · have hq2 : ((s.extract j (j + d)).toList == (s.extract n (n + d)).toList) = false := by
            rw [hbq]; simpa [pc] using HF3.out j hjF
          clear hbq
          go_wp2_with fail
          go_quiet (fail)
          go_wp2
          go_roundw
          case rel => exact ⟨j + 1, m + nq, by omega, by go_num, rfl⟩
          case measure => simp [intOf]; omega
        · have HJ := hid (show j = F from by omega)
          have hq2 : ((s.extract j (j + d)).toList == (s.extract n (n + d)).toList) = true := by
            rw [hbq, HJ.out]; simpa [pc] using HF2.out
          clear hbq
          go_wp2_with fail
          go_quiet (fail)
          go_wp2_with (at_builtin; refine wpList_append_own _ rfl (.tmp 31) (.tmp 33) 53 rfl w.heap.size 3 i0 (.int .i64 0) 1 8 Try.underlying53 hi hz0 hz1 hz2 rfl (by decide) _ _ _ rfl ((own_drewN (m + nq) HOW.out).alloc _) ⟨_, 0, none⟩ 1 1 [.int .i64 (j : Int)] rfl rfl (cell_one_at (by first | rfl | simp)) (by intro u hu; simp at hu; subst hu; rfl) (by unfold maxLen; omega) (by omega) (by simp; omega) ?_; intro v' w4 hown' hgrow _)
          go_roundw
          case rel =>
            have hown4 : w4.ownsRow w.heap.size 3 1 v' (n + 1) (rowF s d (n + 1)) := by
              rw [HJ.out] at hown'
              have e : rowF s d n ++ [Value.int .i64 (F : Int)] = rowF s d (n + 1) := HRF.out
              rw [← e]; exact hown'
            have bel4 := ((Below.drewN HBL.out (m + nq)).alloc (by simpa using hszr) _).grown hgrow (by simp; omega) (own_base HOW.out)
            first
              | exact ⟨n + 1, by omega, by go_num, hown4, bel4⟩
              | ((repeat apply Exists.intro); exact ⟨⟨n + 1, by omega, by go_num, hown4, bel4⟩, rfl⟩)
          case measure => simp [intOf]; omega
    · have HN := hid (show n = s.size - d + 1 from by omega)
      have hcondD : decide ((n : Int) + (d : Int) ≤ (s.size : Int)) = false := by simp; omega
      go_wp2
      go_ret
      exact ⟨_, rfl, by rw [← HN.out]; exact hown, hbel⟩

set_option maxRecDepth 100000 in
set_option maxHeartbeats 400000 in
theorem stands_any (s : ByteArray) (d N g cap j : Nat) (w : World) (hN : N ≤ 800) (hc : ∀ i, i < N → w.cell? ⟨g, i, none⟩ = some (.int .i64 (fs s d i : Int))) :
    Calls Try.prog 52 #[.slice (some ⟨g, 0, none⟩) N cap, .int .i64 j] w fun e w' => e = .returned (.int .i64 (tmTo s d N j : Int)) ∧ w' = w := by
  have HC := hid hc
  clear hc
  go_enter Try.func52, Try.ntmps52
  go_wp2
  go_loop [5, 6] (fun n i => ∃ y : Nat, y ≤ N ∧ i = .int .i64 y ∧ n = .int .i64 (tmTo s d y j : Int)) (fun _ i => N - (intOf i).toNat)
  case atStart => exact ⟨0, Nat.zero_le _, rfl, rfl⟩
  case round =>
    obtain ⟨y, hy, rfl, rfl⟩ := hrel
    have htm := tmTo_le s d y j
    by_cases hlt : y < N
    · have hcell := HC.out y hlt
      have HS := hid (show tmTo s d (y + 1) j = tmTo s d y j + if fs s d y = j then 1 else 0 from rfl)
      generalize tmTo s d y j = T at *
      generalize fs s d y = F at *
      by_cases c : F = j
      · rw [if_pos c] at HS
        have c' : ((F : Int) == (j : Int)) = true := by simp [c]
        clear c
        go_wp2
        go_round
        case rel => exact ⟨y + 1, by omega, by go_num, by rw [HS.out]; go_num⟩
        case measure => simp [intOf]; omega
      · rw [if_neg c] at HS
        have c' : ((F : Int) == (j : Int)) = false := beq_eq_false_iff_ne.2 (by omega)
        go_wp2
        go_round
        case rel => exact ⟨y + 1, by omega, by go_num, by rw [HS.out]; go_num⟩
        case measure => simp [intOf]; omega
    · have HY := hid (show y = N from by omega)
      go_wp2
      go_ret
      exact ⟨ret_int (by rw [HY.out]), rfl⟩

/-- Did one of the y pieces from i on stand at j too? -/
def agT (s : ByteArray) (d j i : Nat) : Nat → Bool
  | 0 => false
  | y + 1 => agT s d j i y || (fs s d (i + y) == fs s d j)
theorem agT_iff (s : ByteArray) (d j i y : Nat) : agT s d j i y = true ↔ ∃ z, z < y ∧ fs s d (i + z) = fs s d j := by
  induction y with
  | zero => simp [agT]
  | succ y ih =>
    rw [agT, Bool.or_eq_true, ih, beq_iff_eq]
    constructor
    · rintro (⟨z, h1, h2⟩ | h)
      · exact ⟨z, by omega, h2⟩
      · exact ⟨y, by omega, h⟩
    · rintro ⟨z, h1, h2⟩
      rcases Nat.lt_or_ge z y with c | c
      · exact .inl ⟨z, c, h2⟩
      · obtain rfl : z = y := by omega
        exact .inr h2
theorem agT_prv {s : ByteArray} {d j i y : Nat} (h : i + y = j) : agT s d j i y = !decide (prv s d j < (i : Int)) := by
  rw [Bool.eq_iff_iff, agT_iff]
  have := again_iff s d i j
  simp only [Bool.not_eq_true', decide_eq_false_iff_not]
  rw [← this]
  constructor
  · rintro ⟨z, h1, h2⟩
    exact ⟨i + z, by omega, by omega, h2⟩
  · rintro ⟨k, h1, h2, h3⟩
    exact ⟨k - i, by omega, by rw [show i + (k - i) = k from by omega]; exact h3⟩

set_option maxRecDepth 100000 in
set_option maxHeartbeats 800000 in
theorem refScore_any (s : ByteArray) (d N g1 c1 g2 c2 i x : Nat) (tk : Nat → Bool) (w : World) (hN : N ≤ 800) (hx : i + x ≤ N) (hc1 : ∀ i, i < N → w.cell? ⟨g1, i, none⟩ = some (.int .i64 (fs s d i : Int)))
    (hc2 : ∀ i, i < N → w.cell? ⟨g2, i, none⟩ = some (.int .i64 (hw s d N tk i : Int))) :
    Calls Try.prog 53 #[.slice (some ⟨g1, 0, none⟩) N c1, .slice (some ⟨g2, 0, none⟩) N c2, .int .i64 i, .int .i64 x] w fun e w' => e = .returned (.int .i64 (scTo s d N tk i x : Int)) ∧ ∃ n, w' = w.drewN n := by
  have HC1 := hid hc1
  have HC2 := hid hc2
  clear hc1 hc2
  go_enter Try.func53, Try.ntmps53
  go_wp2
  go_loopw [9, 10, 11, 12] (fun n at' _ _ wr => ∃ y a m : Nat, y ≤ x ∧ i + y = a ∧ at' = .int .i64 a ∧ n = .int .i64 (scTo s d N tk i y : Int) ∧ wr = w.drewN m) (fun _ at' _ _ _ => i + x - (intOf at').toNat)
  case atStart => exact ⟨0, i, 0, Nat.zero_le _, rfl, rfl, rfl, rfl⟩
  case round =>
    obtain ⟨y, a, m, hy, hya, rfl, rfl, rfl⟩ := hrel
    have hsc := scTo_le s d N tk i y
    have hyN : y * N ≤ 800 * 800 := Nat.mul_le_mul (by omega) (by omega)
    have HYA := hid hya
    by_cases hlt : y < x
    · have haN : a < N := by omega
      have hfs := (fs_spec s d a).1
      have hfN : fs s d a < N := by omega
      have cF : w.cell? ⟨g1, a, none⟩ = some (.int .i64 (fs s d a : Int)) := HC1.out a haN
      have cH : w.cell? ⟨g2, fs s d a, none⟩ = some (.int .i64 (hw s d N tk (fs s d a) : Int)) := HC2.out _ hfN
      have hhw := hw_le s d N tk (fs s d a)
      have HS := hid (show scTo s d N tk i (y + 1) = scTo s d N tk i y + if prv s d a < (i : Int) then hw s d N tk (fs s d a) else 0 from by rw [scTo, hya])
      have HAG := hid (agT_prv (s := s) (d := d) hya)
      have haX : (a : Int) < (i : Int) + (x : Int) := by omega
      have haXd : decide ((a : Int) < (i : Int) + (x : Int)) = true := by simp; omega
      clear hya
      generalize scTo s d N tk i y = n0 at *
      go_wp2_with fail
      go_loopw [11, 12] (fun ag k wi => ∃ z c q : Nat, z ≤ y ∧ i + z = c ∧ k = .int .i64 c ∧ ag = .bool (agT s d a i z) ∧ wi = w.drewN q) (fun _ k _ => a - (intOf k).toNat)
      case atStart => exact ⟨0, i, m, Nat.zero_le _, rfl, rfl, rfl, rfl⟩
      case round =>
        obtain ⟨z, c, q, hz, hzc, rfl, rfl, rfl⟩ := hrel
        have hyA := HYA.out
        have HZC := hid hzc
        by_cases hzy : z < y
        · have hca : c < a := by omega
          have hcN : (c : Int) < (N : Int) := by omega
          have haNi : (a : Int) < (N : Int) := by omega
          have cC : w.cell? ⟨g1, c, none⟩ = some (.int .i64 (fs s d c : Int)) := HC1.out c (by omega)
          have HAS := hid (show agT s d a i (z + 1) = (agT s d a i z || (fs s d c == fs s d a)) from by rw [agT, hzc])
          clear hzc hyA
          cases hag : agT s d a i z
          · rw [hag] at HAS
            have hb : ((fs s d c : Int) == (fs s d a : Int)) = (fs s d c == fs s d a) := by rw [Bool.eq_iff_iff]; simp; omega
            have HB := hid hb
            clear hb hag
            cases hq : (fs s d c == fs s d a)
            · rw [hq] at HB HAS
              have hb := HB.out
              clear hq
              generalize fs s d c = FC at *
              generalize fs s d a = FA at *
              go_wp2_with fail
              go_quiet (fail)
              go_wp2
              go_roundw
              case rel => exact ⟨z + 1, c + 1, q + nq, by omega, by have := HZC.out; omega, by go_num, by rw [HAS.out]; rfl, rfl⟩
              case measure => simp [intOf]; omega
            · rw [hq] at HB HAS
              have hb := HB.out
              clear hq
              generalize fs s d c = FC at *
              generalize fs s d a = FA at *
              go_wp2_with fail
              go_quiet (fail)
              go_wp2
              go_roundw
              case rel => exact ⟨z + 1, c + 1, q + nq, by omega, by have := HZC.out; omega, by go_num, by rw [HAS.out]; rfl, rfl⟩
              case measure => simp [intOf]; omega
          · rw [hag] at HAS
            clear hag
            go_wp2_with fail
            go_quiet (fail)
            go_wp2
            go_roundw
            case rel => exact ⟨z + 1, c + 1, q + nq, by omega, by have := HZC.out; omega, by go_num, by rw [HAS.out]; rfl, rfl⟩
            case measure => simp [intOf]; omega
        · have HZ := hid (show z = y from by omega)
          have hca : ¬ c < a := by omega
          have HG := hid (show agT s d a i z = !decide (prv s d a < (i : Int)) from by rw [HZ.out]; exact HAG.out)
          clear hzc hyA
          by_cases cp : prv s d a < (i : Int)
          · rw [if_pos cp] at HS
            have e : agT s d a i z = false := by rw [HG.out]; simp [cp]
            rw [e]
            clear e cp
            generalize hw s d N tk (fs s d a) = H at *
            generalize fs s d a = FA at *
            go_wp2
            go_roundw
            case rel => exact ⟨y + 1, a + 1, q, by omega, by have := HYA.out; omega, by go_num, by rw [HS.out]; go_num, rfl⟩
            case measure => simp [intOf]; omega
          · rw [if_neg cp] at HS
            have e : agT s d a i z = true := by rw [HG.out]; simp [cp]
            rw [e]
            clear e cp
            go_wp2
            go_roundw
            case rel => exact ⟨y + 1, a + 1, q, by omega, by have := HYA.out; omega, by go_num, by rw [HS.out]; go_num, rfl⟩
            case measure => simp [intOf]; omega
    · have HY := hid (show y = x from by omega)
      have haX : decide ((a : Int) < (i : Int) + (x : Int)) = false := by simp; omega
      clear hya
      go_wp2
      go_ret
      exact ⟨ret_int (by rw [HY.out]), m, rfl⟩
end Go.Proofs.Ytopegpilfoajhaa

/-
  P7: the walks of the document's firsts, stands, score.
  P7: the walk of the document's Cover.
-/
import Derived.Test.YtnconbpneimjiaaGreatCovErr
import Derived.BigQuiet
/-! ###  P7: the walks of the document's firsts, stands, score. -/
namespace Go.Proofs.YtnconbpneimjiaaGreat
open Go.RowKit Go.PlainAid

set_option maxRecDepth 100000 in
set_option maxHeartbeats 800000 in
theorem firsts_any (s : ByteArray) (d : Nat) (w : World) (hs : s.size ≤ 800) (hd : d ≤ s.size) :
    Calls Tryz.prog 82 #[.string s, .int .i64 d] w fun e w' => ∃ v, e = .returned v ∧ w'.ownsRow w.heap.size 3 1 v (s.size - d + 1) (rowF s d (s.size - d + 1)) ∧ Below w.heap.size w w' := by
  obtain ⟨i0, hi, hz0, hz1, hz2⟩ := info_parts Tryz.infoInt
  go_enter Tryz.func82, Tryz.ntmps82
  go_wp2
  go_loopw [5, 6, 7] (fun v i _ wr => ∃ n : Nat, n ≤ s.size - d + 1 ∧ i = .int .i64 n ∧ wr.ownsRow w.heap.size 3 1 v n (rowF s d n) ∧ Below w.heap.size w wr) (fun _ i _ _ => s.size - d + 1 - (intOf i).toNat)
  case atStart => exact ⟨0, Nat.zero_le _, rfl, World.ownsRow_nil _ _ _ _, Below.refl _ _⟩
  case round =>
    obtain ⟨n, hn, rfl, hown, hbel⟩ := hrel
    by_cases hlt : n + d ≤ s.size
    · have hcond : (n : Int) + (d : Int) ≤ (s.size : Int) := by omega
      have hcondD : decide ((n : Int) + (d : Int) ≤ (s.size : Int)) = true := by simp; omega
      have hf := fs_spec s d n
      have hfn := hf.1
      have HF2 := hid hf.2.1
      have HF3 := hid hf.2.2
      have HRF := hid (range_app (fun i => Value.int .i64 (fs s d i : Int)) n)
      have HOW := hid hown
      have HBL := hid hbel
      have hszr := hbel.size
      clear hf hown hbel
      generalize fs s d n = F at *
      obtain ⟨w2, rfl⟩ : ∃ w2, w2 = wr := ⟨wr, rfl⟩
      go_wp2_with fail
      go_loopw [7] (fun v wi => ∃ j m : Nat, j ≤ F ∧ v = .int .i64 j ∧ wi = w2.drewN m) (fun v _ => F - (intOf v).toNat)
      case atStart => exact ⟨0, 0, Nat.zero_le _, rfl, rfl⟩
      case round =>
        obtain ⟨j, m, hj, rfl, rfl⟩ := hrel
        have hbq := text_beq (s.extract j (j + d)) (s.extract n (n + d))
        have hj1 : (j : Int) + (d : Int) ≤ (s.size : Int) := by omega
        have hj0 : (j : Int) ≤ (j : Int) + (d : Int) := by omega
        have hn0 : (n : Int) ≤ (n : Int) + (d : Int) := by omega
        by_cases hjF : j < F
        · have hq2 : ((s.extract j (j + d)).toList == (s.extract n (n + d)).toList) = false := by
            rw [hbq]; simpa [pc] using HF3.out j hjF
          clear hbq
          go_wp2_with fail
          go_quiet (fail)
          go_wp2
          go_roundw
          case rel => exact ⟨j + 1, m + nq, by omega, by go_num, rfl⟩
          case measure => simp [intOf]; omega
        · have HJ := hid (show j = F from by omega)
          have hq2 : ((s.extract j (j + d)).toList == (s.extract n (n + d)).toList) = true := by
            rw [hbq, HJ.out]; simpa [pc] using HF2.out
          clear hbq
          go_wp2_with fail
          go_quiet (fail)
          go_wp2_with (at_builtin; refine wpList_append_own _ rfl (.tmp 31) (.tmp 33) 111 rfl w.heap.size 3 i0 (.int .i64 0) 1 8 Tryz.underlying111 hi hz0 hz1 hz2 rfl (by decide) _ _ _ rfl ((own_drewN (m + nq) HOW.out).alloc _) ⟨_, 0, none⟩ 1 1 [.int .i64 (j : Int)] rfl rfl (cell_one_at (by first | rfl | simp)) (by intro u hu; simp at hu; subst hu; rfl) (by unfold maxLen; omega) (by omega) (by simp; omega) ?_; intro v' w4 hown' hgrow _)
          go_roundw
          case rel =>
            have hown4 : w4.ownsRow w.heap.size 3 1 v' (n + 1) (rowF s d (n + 1)) := by
              rw [HJ.out] at hown'
              have e : rowF s d n ++ [Value.int .i64 (F : Int)] = rowF s d (n + 1) := HRF.out
              rw [← e]; exact hown'
            have bel4 := ((Below.drewN HBL.out (m + nq)).alloc (by simpa using hszr) _).grown hgrow (by simp; omega) (own_base HOW.out)
            first
              | exact ⟨n + 1, by omega, by go_num, hown4, bel4⟩
              | ((repeat apply Exists.intro); exact ⟨⟨n + 1, by omega, by go_num, hown4, bel4⟩, rfl⟩)
          case measure => simp [intOf]; omega
    · have HN := hid (show n = s.size - d + 1 from by omega)
      have hcondD : decide ((n : Int) + (d : Int) ≤ (s.size : Int)) = false := by simp; omega
      go_wp2
      go_ret
      exact ⟨_, rfl, by rw [← HN.out]; exact hown, hbel⟩

set_option maxRecDepth 100000 in
set_option maxHeartbeats 400000 in
theorem stands_any (s : ByteArray) (d N g cap j : Nat) (w : World) (hN : N ≤ 800) (hc : ∀ i, i < N → w.cell? ⟨g, i, none⟩ = some (.int .i64 (fs s d i : Int))) :
    Calls Tryz.prog 83 #[.slice (some ⟨g, 0, none⟩) N cap, .int .i64 j] w fun e w' => e = .returned (.int .i64 (tmTo s d N j : Int)) ∧ w' = w := by
  have HC := hid hc
  clear hc
  go_enter Tryz.func83, Tryz.ntmps83
  go_wp2
  go_loop [5, 6] (fun n i => ∃ y : Nat, y ≤ N ∧ i = .int .i64 y ∧ n = .int .i64 (tmTo s d y j : Int)) (fun _ i => N - (intOf i).toNat)
  case atStart => exact ⟨0, Nat.zero_le _, rfl, rfl⟩
  case round =>
    obtain ⟨y, hy, rfl, rfl⟩ := hrel
    have htm := tmTo_le s d y j
    by_cases hlt : y < N
    · have hcell := HC.out y hlt
      have HS := hid (show tmTo s d (y + 1) j = tmTo s d y j + if fs s d y = j then 1 else 0 from rfl)
      generalize tmTo s d y j = T at *
      generalize fs s d y = F at *
      by_cases c : F = j
      · rw [if_pos c] at HS
        have c' : ((F : Int) == (j : Int)) = true := by simp [c]
        clear c
        go_wp2
        go_round
        case rel => exact ⟨y + 1, by omega, by go_num, by rw [HS.out]; go_num⟩
        case measure => simp [intOf]; omega
      · rw [if_neg c] at HS
        have c' : ((F : Int) == (j : Int)) = false := beq_eq_false_iff_ne.2 (by omega)
        go_wp2
        go_round
        case rel => exact ⟨y + 1, by omega, by go_num, by rw [HS.out]; go_num⟩
        case measure => simp [intOf]; omega
    · have HY := hid (show y = N from by omega)
      go_wp2
      go_ret
      exact ⟨ret_int (by rw [HY.out]), rfl⟩

/-- Did one of the y pieces from i on stand at j too? -/
def agT (s : ByteArray) (d j i : Nat) : Nat → Bool
  | 0 => false
  | y + 1 => agT s d j i y || (fs s d (i + y) == fs s d j)
theorem agT_iff (s : ByteArray) (d j i y : Nat) : agT s d j i y = true ↔ ∃ z, z < y ∧ fs s d (i + z) = fs s d j := by
  induction y with
  | zero => simp [agT]
  | succ y ih =>
    rw [agT, Bool.or_eq_true, ih, beq_iff_eq]
    constructor
    · rintro (⟨z, h1, h2⟩ | h)
      · exact ⟨z, by omega, h2⟩
      · exact ⟨y, by omega, h⟩
    · rintro ⟨z, h1, h2⟩
      rcases Nat.lt_or_ge z y with c | c
      · exact .inl ⟨z, c, h2⟩
      · obtain rfl : z = y := by omega
        exact .inr h2
theorem agT_prv {s : ByteArray} {d j i y : Nat} (h : i + y = j) : agT s d j i y = !decide (prv s d j < (i : Int)) := by
  rw [Bool.eq_iff_iff, agT_iff]
  have := again_iff s d i j
  simp only [Bool.not_eq_true', decide_eq_false_iff_not]
  rw [← this]
  constructor
  · rintro ⟨z, h1, h2⟩
    exact ⟨i + z, by omega, by omega, h2⟩
  · rintro ⟨k, h1, h2, h3⟩
    exact ⟨k - i, by omega, by rw [show i + (k - i) = k from by omega]; exact h3⟩

set_option maxRecDepth 100000 in
set_option maxHeartbeats 800000 in
theorem refScore_any (s : ByteArray) (d N g1 c1 g2 c2 i x : Nat) (tk : Nat → Bool) (w : World) (hN : N ≤ 800) (hx : i + x ≤ N) (hc1 : ∀ i, i < N → w.cell? ⟨g1, i, none⟩ = some (.int .i64 (fs s d i : Int)))
    (hc2 : ∀ i, i < N → w.cell? ⟨g2, i, none⟩ = some (.int .i64 (hw s d N tk i : Int))) :
    Calls Tryz.prog 84 #[.slice (some ⟨g1, 0, none⟩) N c1, .slice (some ⟨g2, 0, none⟩) N c2, .int .i64 i, .int .i64 x] w fun e w' => e = .returned (.int .i64 (scTo s d N tk i x : Int)) ∧ ∃ n, w' = w.drewN n := by
  have HC1 := hid hc1
  have HC2 := hid hc2
  clear hc1 hc2
  go_enter Tryz.func84, Tryz.ntmps84
  go_wp2
  go_loopw [9, 10, 11, 12] (fun n at' _ _ wr => ∃ y a m : Nat, y ≤ x ∧ i + y = a ∧ at' = .int .i64 a ∧ n = .int .i64 (scTo s d N tk i y : Int) ∧ wr = w.drewN m) (fun _ at' _ _ _ => i + x - (intOf at').toNat)
  case atStart => exact ⟨0, i, 0, Nat.zero_le _, rfl, rfl, rfl, rfl⟩
  case round =>
    obtain ⟨y, a, m, hy, hya, rfl, rfl, rfl⟩ := hrel
    have hsc := scTo_le s d N tk i y
    have hyN : y * N ≤ 800 * 800 := Nat.mul_le_mul (by omega) (by omega)
    have HYA := hid hya
    by_cases hlt : y < x
    · have haN : a < N := by omega
      have hfs := (fs_spec s d a).1
      have hfN : fs s d a < N := by omega
      have cF : w.cell? ⟨g1, a, none⟩ = some (.int .i64 (fs s d a : Int)) := HC1.out a haN
      have cH : w.cell? ⟨g2, fs s d a, none⟩ = some (.int .i64 (hw s d N tk (fs s d a) : Int)) := HC2.out _ hfN
      have hhw := hw_le s d N tk (fs s d a)
      have HS := hid (show scTo s d N tk i (y + 1) = scTo s d N tk i y + if prv s d a < (i : Int) then hw s d N tk (fs s d a) else 0 from by rw [scTo, hya])
      have HAG := hid (agT_prv (s := s) (d := d) hya)
      have haX : (a : Int) < (i : Int) + (x : Int) := by omega
      have haXd : decide ((a : Int) < (i : Int) + (x : Int)) = true := by simp; omega
      clear hya
      generalize scTo s d N tk i y = n0 at *
      go_wp2_with fail
      go_loopw [11, 12] (fun ag k wi => ∃ z c q : Nat, z ≤ y ∧ i + z = c ∧ k = .int .i64 c ∧ ag = .bool (agT s d a i z) ∧ wi = w.drewN q) (fun _ k _ => a - (intOf k).toNat)
      case atStart => exact ⟨0, i, m, Nat.zero_le _, rfl, rfl, rfl, rfl⟩
      case round =>
        obtain ⟨z, c, q, hz, hzc, rfl, rfl, rfl⟩ := hrel
        have hyA := HYA.out
        have HZC := hid hzc
        by_cases hzy : z < y
        · have hca : c < a := by omega
          have hcN : (c : Int) < (N : Int) := by omega
          have haNi : (a : Int) < (N : Int) := by omega
          have cC : w.cell? ⟨g1, c, none⟩ = some (.int .i64 (fs s d c : Int)) := HC1.out c (by omega)
          have HAS := hid (show agT s d a i (z + 1) = (agT s d a i z || (fs s d c == fs s d a)) from by rw [agT, hzc])
          clear hzc hyA
          cases hag : agT s d a i z
          · rw [hag] at HAS
            have hb : ((fs s d c : Int) == (fs s d a : Int)) = (fs s d c == fs s d a) := by rw [Bool.eq_iff_iff]; simp; omega
            have HB := hid hb
            clear hb hag
            cases hq : (fs s d c == fs s d a)
            · rw [hq] at HB HAS
              have hb := HB.out
              clear hq
              generalize fs s d c = FC at *
              generalize fs s d a = FA at *
              go_wp2_with fail
              go_quiet (fail)
              go_wp2
              go_roundw
              case rel => exact ⟨z + 1, c + 1, q + nq, by omega, by have := HZC.out; omega, by go_num, by rw [HAS.out]; rfl, rfl⟩
              case measure => simp [intOf]; omega
            · rw [hq] at HB HAS
              have hb := HB.out
              clear hq
              generalize fs s d c = FC at *
              generalize fs s d a = FA at *
              go_wp2_with fail
              go_quiet (fail)
              go_wp2
              go_roundw
              case rel => exact ⟨z + 1, c + 1, q + nq, by omega, by have := HZC.out; omega, by go_num, by rw [HAS.out]; rfl, rfl⟩
              case measure => simp [intOf]; omega
          · rw [hag] at HAS
            clear hag
            go_wp2_with fail
            go_quiet (fail)
            go_wp2
            go_roundw
            case rel => exact ⟨z + 1, c + 1, q + nq, by omega, by have := HZC.out; omega, by go_num, by rw [HAS.out]; rfl, rfl⟩
            case measure => simp [intOf]; omega
        · have HZ := hid (show z = y from by omega)
          have hca : ¬ c < a := by omega
          have HG := hid (show agT s d a i z = !decide (prv s d a < (i : Int)) from by rw [HZ.out]; exact HAG.out)
          clear hzc hyA
          by_cases cp : prv s d a < (i : Int)
          · rw [if_pos cp] at HS
            have e : agT s d a i z = false := by rw [HG.out]; simp [cp]
            rw [e]
            clear e cp
            generalize hw s d N tk (fs s d a) = H at *
            generalize fs s d a = FA at *
            go_wp2
            go_roundw
            case rel => exact ⟨y + 1, a + 1, q, by omega, by have := HYA.out; omega, by go_num, by rw [HS.out]; go_num, rfl⟩
            case measure => simp [intOf]; omega
          · rw [if_neg cp] at HS
            have e : agT s d a i z = true := by rw [HG.out]; simp [cp]
            rw [e]
            clear e cp
            go_wp2
            go_roundw
            case rel => exact ⟨y + 1, a + 1, q, by omega, by have := HYA.out; omega, by go_num, by rw [HS.out]; go_num, rfl⟩
            case measure => simp [intOf]; omega
    · have HY := hid (show y = x from by omega)
      have haX : decide ((a : Int) < (i : Int) + (x : Int)) = false := by simp; omega
      clear hya
      go_wp2
      go_ret
      exact ⟨ret_int (by rw [HY.out]), m, rfl⟩
end Go.Proofs.YtnconbpneimjiaaGreat

/-! ###  P7: the walk of the document's Cover. -/
namespace Go.Proofs.YtnconbpneimjiaaGreat
open Go.RowKit Go.PlainAid

theorem own_bel {w w' : World} {base e : Nat} {v : Value} {n : Nat} {xs : List Value} (h : w.ownsRow base e 1 v n xs) (hb : Below w.heap.size w w') : w'.ownsRow base e 1 v n xs := by
  have hl := h.lt
  refine ⟨h.1, ?_⟩
  rcases h.2 with h2 | ⟨g, cap, cur, rfl, hg, hgb, r⟩
  · exact .inl h2
  · exact .inr ⟨g, cap, cur, rfl, hg, by rw [hb.block g (hl g rfl).2]; exact hgb, r⟩
theorem ret_s0 {a b : ByteArray} (h : a = b) : Ending.returned (.tuple #[.string a, .int .i64 0]) = .returned (.tuple #[.string b, .int .i64 0]) := by rw [h]
def rowH (s : ByteArray) (d N : Nat) (tk : Nat → Bool) : List Value := (List.range N).map fun i => Value.int .i64 (hw s d N tk i : Int)
structure Rf (w : World) (B1 B2 N : Nat) (s : ByteArray) (d : Nat) (tk : Nat → Bool) (g1 c1 g2 c2 : Nat) : Prop where
  f : w.ownsRow B1 3 1 (.slice (some ⟨g1, 0, none⟩) N c1) N (rowF s d N)
  h : w.ownsRow B2 3 1 (.slice (some ⟨g2, 0, none⟩) N c2) N (rowH s d N tk)
  ne : g1 ≠ g2
section
variable {w : World} {B1 B2 N : Nat} {s : ByteArray} {d : Nat} {tk : Nat → Bool} {g1 c1 g2 c2 : Nat}
theorem Rf.cF (h : Rf w B1 B2 N s d tk g1 c1 g2 c2) (i : Nat) (hi : i < N) : w.cell? ⟨g1, i, none⟩ = some (.int .i64 (fs s d i : Int)) := by
  rw [World.ownsRow.cellAt h.f i (by omega)]; exact range_get _ _ _ hi
theorem Rf.cH (h : Rf w B1 B2 N s d tk g1 c1 g2 c2) (i : Nat) (hi : i < N) : w.cell? ⟨g2, i, none⟩ = some (.int .i64 (hw s d N tk i : Int)) := by
  rw [World.ownsRow.cellAt h.h i (by omega)]; exact range_get _ _ _ hi
theorem Rf.drew (n : Nat) (h : Rf w B1 B2 N s d tk g1 c1 g2 c2) : Rf (w.drewN n) B1 B2 N s d tk g1 c1 g2 c2 := ⟨h.f, h.h, h.ne⟩
theorem Rf.take (h : Rf w B1 B2 N s d tk g1 c1 g2 c2) (i : Nat) (tk' : Nat → Bool) (h1 : tk' i = true) (h2 : ∀ j, j ≠ i → tk' j = tk j) : Rf (w.setCell ⟨g2, i, none⟩ (.int .i64 0)) B1 B2 N s d tk' g1 c1 g2 c2 := by
  refine ⟨ownsRow_setCell_other h.f (by simp [Value.ownBlock, h.ne]) _, ?_, h.ne⟩
  have := (World.ownsRow.stored h.h i (.int .i64 0)).1
  have e : (rowH s d N tk).set i (.int .i64 0) = rowH s d N tk' := range_set (by unfold hw; rw [h1]; rfl) (fun j hj => by unfold hw; rw [h2 j hj])
  rw [e] at this
  exact this
end
theorem rowH_none (s : ByteArray) (d N : Nat) : rowT s d N N = rowH s d N (fun _ => false) := by
  unfold rowT rowH hw; rfl

set_option maxRecDepth 100000 in
set_option maxHeartbeats 3200000 in
theorem refCoverOk (s : ByteArray) (k d B : Nat) (w : World) (hs : s.size ≤ 800) (hd : 1 ≤ d) (hk : d ≤ k) (hks : k ≤ s.size) (hkB : k ≤ B) (hB : B ≤ 500) :
    Calls Tryz.prog 42 #[.string s, .int .i64 k, .int .i64 d, .int .i64 B] w fun e w' => e = .returned (.tuple #[.string (cov s k d B), .int .i64 0]) ∧ Below w.heap.size w w' := by
  obtain ⟨i0, hi, hz0, hz1, hz2⟩ := info_parts Tryz.infoInt
  have q0 : ¬ (800 : Int) < (s.size : Int) := by omega
  have q1 : decide ((d : Int) < 1) = false := by simp; omega
  have q2 : decide ((k : Int) < (d : Int)) = false := by simp; omega
  have q3 : decide ((B : Int) < (k : Int)) = false := by simp; omega
  have q4 : decide ((500 : Int) < (B : Int)) = false := by simp; omega
  have q5 : decide ((s.size : Int) < (k : Int)) = false := by simp; omega
  have HF := hid (firsts_any s d w hs (by omega))
  obtain ⟨N, hN⟩ : ∃ N, N = s.size - d + 1 := ⟨_, rfl⟩
  obtain ⟨x, hx⟩ : ∃ x, x = k - d + 1 := ⟨_, rfl⟩
  have HC := hid (show cov s k d B = covF s k d N B (B + 1) (fun _ => false) ⟨#[]⟩ from by rw [hN]; rfl)
  rw [← hN] at HF
  have hxk : (k : Int) - (d : Int) + 1 = (x : Int) := by omega
  have HX := hid hx
  have hN8 : N ≤ 800 := by omega
  have hN1 : 1 ≤ N := by omega
  have HNx := hid (show N = s.size - k + x from by omega)
  have hxd : x + d = k + 1 := by omega
  generalize cov s k d B = CV at *
  clear hN hx
  go_enter Tryz.func42, Tryz.ntmps42
  go_wp2_with fail
  refine Calls.mono HF.out ?_
  rintro e w1 ⟨v1, rfl, o1, b1⟩
  obtain ⟨g1, c1, rfl⟩ := own_frm o1 hN1
  have hg1 := (o1.lt g1 rfl).2
  have hw1 := b1.size
  clear HF
  go_wp2_with fail
  go_loopw [11, 12, 13] (fun v i _ wr => ∃ n : Nat, n ≤ N ∧ i = .int .i64 n ∧ wr.ownsRow w1.heap.size 3 1 v n (rowT s d N n) ∧ Below w1.heap.size w1 wr) (fun _ i _ _ => N - (intOf i).toNat)
  case atStart => exact ⟨0, Nat.zero_le _, rfl, World.ownsRow_nil _ _ _ _, Below.refl _ _⟩
  case round =>
    obtain ⟨n, hn, rfl, hown, hbel⟩ := hrel
    have hszr := hbel.size
    by_cases hlt : n < N
    · have hcall := hid (stands_any s d N g1 c1 n wr hN8 (fun i hi => by
        rw [hbel.cell (p := ⟨g1, i, none⟩) hg1, World.ownsRow.cellAt o1 i (by omega)]; exact range_get _ _ _ hi))
      have HRT := hid (range_app (fun i => Value.int .i64 (tmTo s d N i : Int)) n)
      have htm := tmTo_le s d N n
      generalize tmTo s d N n = T at *
      go_wp2_with (first
        | (go_at_call 83; refine Calls.mono hcall.out ?_; rintro e w' ⟨rfl, rfl⟩)
        | (at_builtin; refine wpList_append_own _ rfl (.tmp 57) (.tmp 59) 111 rfl w1.heap.size 3 i0 (.int .i64 0) 1 8 Tryz.underlying111 hi hz0 hz1 hz2 rfl (by decide) _ _ _ rfl (hown.alloc _) ⟨_, 0, none⟩ 1 1 [.int .i64 (T : Int)] rfl rfl (cell_one_at (by first | rfl | simp)) (by intro u hu; simp at hu; subst hu; rfl) (by unfold maxLen; omega) (by omega) (by simp; omega) ?_; intro v' w4 hown' hgrow _))
      go_roundw
      case rel =>
        have hown4 : w4.ownsRow w1.heap.size 3 1 v' (n + 1) (rowT s d N (n + 1)) := by
          have e : rowT s d N n ++ [Value.int .i64 (T : Int)] = rowT s d N (n + 1) := HRT.out
          rw [← e]; exact hown'
        have bel4 := (hbel.alloc hszr _).grown hgrow (by simp; omega) (own_base hown)
        first
          | exact ⟨n + 1, by omega, by go_num, hown4, bel4⟩
          | ((repeat apply Exists.intro); exact ⟨⟨n + 1, by omega, by go_num, hown4, bel4⟩, rfl⟩)
      case measure => simp [intOf]; omega
    · have HN := hid (show n = N from by omega)
      rw [HN.out, rowH_none] at hown
      obtain ⟨g2, c2, rfl⟩ := own_frm hown hN1
      have hg2 := hown.lt g2 rfl
      have R2 : Rf wr w.heap.size w1.heap.size N s d (fun _ => false) g1 c1 g2 c2 := ⟨own_bel o1 hbel, hown, by omega⟩
      have bel2 : Below w.heap.size w wr := b1.trans (hbel.mono hw1)
      have hg2w : w.heap.size ≤ g2 := by omega
      have hgo := hid hg2w
      clear hown hbel b1 o1 hg1
      go_wp2_with fail
      go_loopg [14, 15, 16, 17, 18, 19] (B + 1) (fun gh c _ _ _ _ _ wz => ∃ (tk : Nat → Bool) (cc : ByteArray), c = .string cc ∧ Rf wz w.heap.size w1.heap.size N s d tk g1 c1 g2 c2 ∧ Below w.heap.size w wz ∧ cc.size < B + k ∧ B - cc.size < gh ∧ CV = covF s k d N B gh tk cc)
      case atStart => exact ⟨fun _ => false, ⟨#[]⟩, rfl, R2, bel2, by show 0 < B + k; omega, by show B - 0 < B + 1; omega, HC.out⟩
      case round =>
        obtain ⟨tk, cc, rfl, hR, hbel, hcs, hfu, hcv⟩ := hrel
        obtain ⟨f, hf⟩ : ∃ f, gk = f + 1 := ⟨gk - 1, by omega⟩
        subst hf
        have H3 := hid hcv
        clear hcv
        by_cases h1 : cc.size < B
        · have HCN := hid (covF_none (s := s) (k := k) (d := d) (N := N) (f := f) (tk := tk) h1)
          have HCS := hid (covF_some (s := s) (k := k) (d := d) (N := N) (f := f) (tk := tk) h1)
          rw [← HX.out] at HCN HCS
          have h1' : (cc.size : Int) < (B : Int) := by omega
          have h1d : decide ((cc.size : Int) < (B : Int)) = true := by simp; omega
          have HR := hid hR
          have HBE := hid hbel
          have HSL := hid (fun i => scTo_le s d N tk i x)
          have HLE := hid (fun n => bsTo_le s d N tk x n)
          have HLT := hid (fun n (hn : 0 < n) => bsTo_lt s d N tk x n hn)
          have HSTEP := hid (fun n => show bsTo s d N tk x (n + 1) = if (bsTo s d N tk x n).2 < scTo s d N tk n x then (n, scTo s d N tk n x) else bsTo s d N tk x n from rfl)
          have H0 := hid (show bsTo s d N tk x 0 = (0, 0) from rfl)
          have hxN2 : x * N ≤ 800 * 800 := Nat.mul_le_mul (by omega) (by omega)
          clear hR hbel
          generalize bsTo s d N tk x = G at *
          obtain ⟨wo, rfl⟩ : ∃ wo, wo = wr := ⟨wr, rfl⟩
          go_wp2_with fail
          go_loopw [15, 16, 17, 18] (fun at' m i _ wi => ∃ y q : Nat, y ≤ s.size - k + 1 ∧ i = .int .i64 y ∧ at' = .int .i64 ((G y).1 : Int) ∧ m = .int .i64 ((G y).2 : Int) ∧ wi = wo.drewN q) (fun _ _ i _ _ => s.size - k + 1 - (intOf i).toNat)
          case atStart => exact ⟨0, 0, Nat.zero_le _, rfl, by rw [H0.out]; rfl, by rw [H0.out]; rfl, rfl⟩
          case round =>
            obtain ⟨y, q, hy, rfl, rfl, rfl, rfl⟩ := hrel
            have hmy := HLE.out y
            by_cases hyk : y + k ≤ s.size
            · have hcall := hid (refScore_any s d N g1 c1 g2 c2 y x tk (wo.drewN q) hN8 (by have := HNx.out; omega) (HR.out.drew q).cF (HR.out.drew q).cH)
              have hsy := HSL.out y
              have HST := hid (HSTEP.out y)
              have hyd : decide ((y : Int) + (k : Int) ≤ (s.size : Int)) = true := by simp; omega
              generalize scTo s d N tk y x = n at *
              generalize G y = fk at *
              obtain ⟨aa, m⟩ := fk
              simp only at hmy HST ⊢
              by_cases c : m < n
              · rw [if_pos c] at HST
                have c' : (m : Int) < (n : Int) := by omega
                go_wp2_with (go_at_call 84; refine Calls.mono hcall.out ?_; rintro e w' ⟨rfl, nq, rfl⟩)
                go_roundw
                case rel => exact ⟨y + 1, q + nq, by omega, by go_num, by rw [HST.out], by rw [HST.out], by first | rfl | simp⟩
                case measure => simp [intOf]; omega
              · rw [if_neg c] at HST
                have c' : ¬ (m : Int) < (n : Int) := by omega
                go_wp2_with (go_at_call 84; refine Calls.mono hcall.out ?_; rintro e w' ⟨rfl, nq, rfl⟩)
                go_roundw
                case rel => exact ⟨y + 1, q + nq, by omega, by go_num, by rw [HST.out], by rw [HST.out], by first | rfl | simp⟩
                case measure => simp [intOf]; omega
            · have HY := hid (show y = s.size - k + 1 from by omega)
              have hyd : decide ((y : Int) + (k : Int) ≤ (s.size : Int)) = false := by simp; omega
              have hat := HLT.out y (by omega)
              rw [← HY.out] at HCN HCS
              generalize G y = fk at *
              obtain ⟨a, m⟩ := fk
              simp only at hmy hat HCN HCS ⊢
              have hRq := HR.out.drew q
              have hbq := Below.drewN HBE.out q
              by_cases c0 : m = 0
              · have HE := hid (show CV = cc from by rw [H3.out]; exact HCN.out c0)
                have c0' : ((m : Int) == 0) = true := by simp [c0]
                clear c0 hRq
                go_wp2
                go_ret2
                exact ⟨ret_s0 HE.out.symm, hbq⟩
              · have c0' : ((m : Int) == 0) = false := beq_eq_false_iff_ne.2 (by omega)
                have HE := hid (H3.out.trans (HCS.out c0))
                have hak : a + k ≤ s.size := by omega
                have hwin : (s.extract a (a + k)).size = k := by rw [ext_size _ _ _ hak]; omega
                have HRQ := hid hRq
                have HBQ := hid hbq
                have HFU := hid hfu
                clear c0 hRq hbq HCN HCS H3
                go_wp2_with fail
                go_loopw [19] (fun j wi => ∃ z a' : Nat, z ≤ x ∧ a + z = a' ∧ j = .int .i64 a' ∧ Rf wi w.heap.size w1.heap.size N s d (tkTo s d tk a z) g1 c1 g2 c2 ∧ Below w.heap.size w wi) (fun j _ => a + x - (intOf j).toNat)
                case atStart => exact ⟨0, a, Nat.zero_le _, rfl, rfl, HRQ.out, HBQ.out⟩
                case round =>
                  obtain ⟨z, a', hz, hza, rfl, hR4, hb4⟩ := hrel
                  have HZA := hid hza
                  by_cases hzx : z < x
                  · have haN : a' < N := by have := HNx.out; omega
                    have hfs := (fs_spec s d a').1
                    have hfN : fs s d a' < N := by omega
                    have cF := hR4.cF a' haN
                    have cH := hR4.cH _ hfN
                    have fH := World.ownsRow.frozenAt hR4.h (fs s d a')
                    have HT := hid (hR4.take (fs s d a') (tkTo s d tk a (z + 1)) (by rw [tkTo, if_pos (by rw [hza])]) (fun j hj => by rw [tkTo, if_neg (by rw [hza]; exact fun e => hj e.symm)]))
                    have HB4 := hid (hb4.setCell (p := ⟨g2, fs s d a', none⟩) hgo.out (.int .i64 0))
                    have hcd : decide ((a' : Int) + (d : Int) ≤ (a : Int) + (k : Int)) = true := by simp; omega
                    clear hza hR4 hb4
                    generalize fs s d a' = F at *
                    go_wp2
                    go_roundw
                    case rel => exact ⟨z + 1, a' + 1, by omega, by have := HZA.out; omega, by go_num, HT.out, HB4.out⟩
                    case measure => have := HZA.out; simp [intOf]; omega
                  · have HZ := hid (show z = x from by omega)
                    have hcd : decide ((a' : Int) + (d : Int) ≤ (a : Int) + (k : Int)) = false := by simp; omega
                    have hab : a' ≤ 2000 := by have := HNx.out; omega
                    clear hza
                    rw [HZ.out] at hR4
                    go_wp2
                    go_roundg f
                    case measure => omega
                    case rel =>
                      exact ⟨tkTo s d tk a x, _, rfl, hR4, hb4, by rw [ByteArray.size_append, hwin]; omega, by rw [ByteArray.size_append, hwin]; omega, HE.out⟩
        · have HE := hid (show CV = lastN cc B from by rw [H3.out]; exact covF_full (by omega))
          have h1d : decide ((cc.size : Int) < (B : Int)) = false := by simp; omega
          obtain ⟨m, hm⟩ : ∃ m : Nat, (cc.size : Int) - (B : Int) = (m : Int) := ⟨cc.size - B, by omega⟩
          have HL := hid (show lastN cc B = cc.extract m cc.size from by unfold lastN; congr 1; omega)
          have hm2 : m ≤ cc.size := by omega
          have hc1000 : cc.size ≤ 1000 := by omega
          go_wp2
          go_ret2
          exact ⟨ret_s0 (by rw [HE.out, HL.out]), hbel⟩
end Go.Proofs.YtnconbpneimjiaaGreat

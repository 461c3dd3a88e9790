/-
  P5, P6: the walk of pack.
-/
import Derived.Test.YtaofgdgfmdieeaaTabWalks
import Derived.Test.YtaofgdgfmdieeaaPlain
import Derived.Maps.AppendAt
namespace Go.Proofs.Ytaofgdgfmdieeaa
open Go.RowKit Go.PlainAid

/-- The first k bytes. -/
def pkTo (B : List Nat) (k : Nat) : List Nat := (List.range k).map (fun j => valF (bl (padL B)) (8 * j) 8)
theorem pkTo_succ (B : List Nat) (k : Nat) : pkTo B (k + 1) = pkTo B k ++ [valF (bl (padL B)) (8 * k) 8] := by
  simp [pkTo, List.range_succ]
theorem pkTo_len (B : List Nat) (k : Nat) : (pkTo B k).length = k := by simp [pkTo]
theorem valF8 {f : Nat → Nat} (hf : ∀ i, f i < 2) (a : Nat) {n : Nat} (hn : n ≤ 8) : valF f a n ≤ 255 := by
  have h1 := valF_lt hf a n
  have h2 : 2 ^ n ≤ 2 ^ 8 := Nat.pow_le_pow_right (by omega) hn
  omega

set_option maxRecDepth 100000 in
set_option maxHeartbeats 800000 in
theorem pack_any (B : List Nat) (g cap : Nat) (w : World) (hB : ∀ x ∈ B, x < 2) (hn : B.length ≤ 100000) (hg : g < w.heap.size) (hc : ∀ i, i < B.length → w.cell? ⟨g, i, none⟩ = some (.int .u8 (bl B (B.length - 1 - i) : Int))) :
    Calls Try.prog 68 #[.slice (some ⟨g, 0, none⟩) B.length cap] w fun e w' => e = .returned (.string (strN (packL B))) ∧ Below w.heap.size w w' := by
  obtain ⟨i0, hi, hz0, hz1, hz2⟩ := info_parts Try.infoU8
  have HP := hid (fun i => padL_lt hB i)
  have HB := hid (fun i => bl_lt hB i)
  have HC := hid hc
  have HLO := hid (fun i (h : i < B.length) => padL_lo B h)
  have HONE := hid (padL_one B)
  have HHI := hid (fun i (h : B.length < i) => padL_hi B h)
  have HEND := hid (show ∀ k, k = B.length / 8 → pkTo B (k + 1) = packL B from fun k hk => by rw [hk]; rfl)
  have HPS := hid (pkTo_succ B)
  have HPL := hid (pkTo_len B)
  clear hc hB
  generalize bl (padL B) = P at *
  generalize hN : B.length = N at *
  clear hN
  go_enter Try.func68, Try.ntmps68
  go_wp2
  go_loopw [3, 4, 5, 6] (fun o p f i wr => ∃ k r : Nat, r < 8 ∧ 8 * k + r ≤ N ∧ i = .int .i64 ((N : Int) - 1 - ((8 * k + r : Nat) : Int)) ∧ f = .int .i64 r ∧ p = .int .i64 (valF P (8 * k) r : Int) ∧ wr.ownsRow w.heap.size 5 1 o k ((ints (pkTo B k)).map (Value.int .u8)) ∧ Below w.heap.size w wr) (fun _ _ _ i _ => (intOf i + 1).toNat)
  case atStart => exact ⟨0, 0, by omega, by omega, by simp, rfl, rfl, World.ownsRow_nil _ _ _ _, Below.refl _ _⟩
  case round =>
    obtain ⟨k, r, hr, hkr, rfl, rfl, rfl, hown, hbel⟩ := hrel
    have hsz := hbel.size
    have hv := valF8 HP.out (8 * k) (n := r) (by omega)
    by_cases hlt : 8 * k + r < N
    · have HV := hid (show valF P (8 * k) (r + 1) = 2 * valF P (8 * k) r + P (8 * k + r) from rfl)
      have hv2 := valF8 HP.out (8 * k) (n := r + 1) (by omega)
      have hbit := HB.out (8 * k + r)
      have HPB := hid (HLO.out (8 * k + r) hlt)
      obtain ⟨m, hm⟩ : ∃ m, m = N - 1 - (8 * k + r) := ⟨_, rfl⟩
      have hmi : (N : Int) - 1 - ((8 * k + r : Nat) : Int) = (m : Int) := by omega
      have hmN : m < N := by omega
      have hcell : wr.cell? ⟨g, m, none⟩ = some (.int .u8 (bl B (8 * k + r) : Int)) := by
        have := (hbel.cell (p := ⟨g, m, none⟩) hg).trans (HC.out m hmN)
        rw [this, show N - 1 - m = 8 * k + r from by omega]
      have HM := hid hm
      rw [hmi]
      have HMI := hid hmi
      clear hm hmi
      generalize bl B (8 * k + r) = bb at *
      rw [HPB.out] at HV
      generalize valF P (8 * k) r = x at *
      by_cases c8 : r = 7
      · have c8' : ((r : Int) + 1 == 8) = true := by simp; omega
        have HX := hid (show valF P (8 * k) 8 = 2 * x + bb from by rw [← HV.out, c8])
        have hx8 : 2 * x + bb ≤ 255 := by rw [← HV.out]; exact hv2
        have HC8 := hid c8
        clear c8 HV hv2
        go_wp2_with (at_builtin; refine wpList_append_own _ rfl (.tmp 26) (.tmp 29) 37 rfl w.heap.size 5 i0 (.int .u8 0) 1 1 Try.underlying37 hi hz0 hz1 hz2 rfl (by decide) _ _ _ rfl (hown.alloc _) ⟨_, 0, none⟩ 1 1 [.int .u8 (2 * (x : Int) + (bb : Int))] rfl rfl (cell_one_new _ _ _) (by intro u hu; simp at hu; subst hu; rfl) (by unfold maxLen; omega) (by omega) (by simp; omega) ?_; intro v' w4 hown' hgrow _)
        go_roundw
        case rel =>
          have hown4 : w4.ownsRow w.heap.size 5 1 v' (k + 1) ((ints (pkTo B (k + 1))).map (Value.int .u8)) := by
            rw [HPS.out, HX.out]; simpa [ints] using hown'
          have bel4 := (hbel.alloc hsz _).grown hgrow (by simp; omega) (own_base hown)
          have hi4 : (m : Int) - 1 = (N : Int) - 1 - ((8 * (k + 1) + 0 : Nat) : Int) := by have := HM.out; have := HC8.out; omega
          have hc8 := HC8.out
          first
            | exact ⟨k + 1, 0, by omega, by omega, by rw [← hi4], rfl, rfl, hown4, bel4⟩
            | ((repeat apply Exists.intro); exact ⟨⟨k + 1, 0, by omega, by omega, by rw [← hi4], rfl, rfl, hown4, bel4⟩, rfl⟩)
        case measure => first | (simp [intOf]; done) | (simp [intOf]; omega)
      · have c8' : ((r : Int) + 1 == 8) = false := by simp; omega
        go_wp2
        go_roundw
        case rel =>
          refine ⟨k, r + 1, by omega, by omega, ?_, by go_num, by rw [HV.out]; go_num, hown, hbel⟩
          have := HM.out
          exact congrArg (Value.int .i64) (by omega)
        case measure => first | (simp [intOf]; done) | (simp [intOf]; omega)
    · have HKR := hid (show N = 8 * k + r from by omega)
      have hneg : (N : Int) - 1 - ((8 * k + r : Nat) : Int) = -1 := by omega
      rw [hneg]
      have HV1 := hid (show valF P (8 * k) (r + 1) = 2 * valF P (8 * k) r + 1 from by rw [valF, ← HKR.out, HONE.out])
      have HZ := hid (fun j (hj : r + 1 ≤ j) => show valF P (8 * k) (j + 1) = 2 * valF P (8 * k) j from by
        rw [valF, HHI.out (8 * k + j) (by have := HKR.out; omega)]; rfl)
      have hv1 := valF8 HP.out (8 * k) (n := r + 1) (by omega)
      rw [HV1.out] at hv1
      have HOW := hid hown
      have HBL := hid hbel
      clear hown hbel hneg
      go_wp2_with fail
      go_loopw [4, 5] (fun p f wi => ∃ j : Nat, r + 1 ≤ j ∧ j ≤ 8 ∧ f = .int .i64 j ∧ p = .int .i64 (valF P (8 * k) j : Int) ∧ wi = wr) (fun _ f _ => 8 - (intOf f).toNat)
      case atStart => exact ⟨r + 1, Nat.le_refl _, by omega, by go_num, by rw [HV1.out]; go_num, rfl⟩
      case round =>
        obtain ⟨j, hj1, hj2, rfl, rfl, rfl⟩ := hrel
        have hvj := valF8 HP.out (8 * k) (n := j) hj2
        by_cases hj8 : j < 8
        · have HZJ := hid (HZ.out j hj1)
          generalize valF P (8 * k) j = x at *
          go_wp2
          go_roundw
          case rel => exact ⟨j + 1, by omega, by omega, by go_num, by rw [HZJ.out]; go_num, trivial⟩
          case measure => first | (simp [intOf]; done) | (simp [intOf]; omega)
        · have HJ8 := hid (show j = 8 from by omega)
          have HE := hid (HEND.out k (by have := HKR.out; omega))
          rw [HPS.out, show valF P (8 * k) 8 = valF P (8 * k) j from by rw [HJ8.out]] at HE
          generalize valF P (8 * k) j = x at *
          have hown := HOW.out
          have hbel := HBL.out
          go_wp2_with (at_builtin; refine wpList_append_own _ rfl (.tmp 42) (.tmp 45) 37 rfl w.heap.size 5 i0 (.int .u8 0) 1 1 Try.underlying37 hi hz0 hz1 hz2 rfl (by decide) _ _ _ rfl (hown.alloc _) ⟨_, 0, none⟩ 1 1 [.int .u8 (x : Int)] rfl rfl (cell_one_new _ _ _) (by intro u hu; simp at hu; subst hu; rfl) (by unfold maxLen; omega) (by omega) (by simp; omega) ?_; intro v' w4 hown' hgrow _; have hown5 : w4.ownsRow w.heap.size 5 1 v' (k + 1) ((ints (packL B)).map (Value.int .u8)) := (by rw [← HE.out]; simpa [ints] using hown'); have hconv := conv_own (P := Try.prog) (dst := 9) Try.underlying37 Try.underlying5 Try.underlying9 hown5)
          go_ret
          exact ⟨rfl, (hbel.alloc hsz _).grown hgrow (by simp; omega) (own_base hown)⟩
end Go.Proofs.Ytaofgdgfmdieeaa

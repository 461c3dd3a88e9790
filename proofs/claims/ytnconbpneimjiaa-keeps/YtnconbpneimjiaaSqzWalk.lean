/-
  P5, P6: the walk of pack.
  P5, P6: the walk of Write.
  P5: the walk of Squeeze.
-/
import Derived.Test.YtnconbpneimjiaaTabWalks
import Derived.Test.YtnconbpneimjiaaPlain
import Derived.Maps.AppendAt
import Derived.Test.YtnconbpneimjiaaLayLay
namespace Go.Proofs.Ytnconbpneimjiaa
open Go.RowKit Go.PlainAid

/-! ### P5, P6: the walk of pack. -/
/-- The first k bytes. -/
def pkTo (B : List Nat) (k : Nat) : List Nat := (List.range k).map (fun j => valF (bl (padL B)) (8 * j) 8)
theorem pkTo_succ (B : List Nat) (k : Nat) : pkTo B (k + 1) = pkTo B k ++ [valF (bl (padL B)) (8 * k) 8] := by
  simp [pkTo, List.range_succ]
theorem pkTo_len (B : List Nat) (k : Nat) : (pkTo B k).length = k := by simp [pkTo]
theorem valF8 {f : Nat → Nat} (hf : ∀ i, f i < 2) (a : Nat) {n : Nat} (hn : n ≤ 8) : valF f a n ≤ 255 := by
  have h1 := valF_lt hf a n
  have h2 : 2 ^ n ≤ 2 ^ 8 := Nat.pow_le_pow_right (by omega) hn
  omega

set_option maxRecDepth 100000 in
set_option maxHeartbeats 800000 in
theorem pack_any (B : List Nat) (g cap : Nat) (w : World) (hB : ∀ x ∈ B, x < 2) (hn : B.length ≤ 100000) (hg : g < w.heap.size) (hc : ∀ i, i < B.length → w.cell? ⟨g, i, none⟩ = some (.int .u8 (bl B (B.length - 1 - i) : Int))) :
    Calls Try.prog 82 #[.slice (some ⟨g, 0, none⟩) B.length cap] w fun e w' => e = .returned (.string (strN (packL B))) ∧ Below w.heap.size w w' := by
  obtain ⟨i0, hi, hz0, hz1, hz2⟩ := info_parts Try.infoU8
  have HP := hid (fun i => padL_lt hB i)
  have HB := hid (fun i => bl_lt hB i)
  have HC := hid hc
  have HLO := hid (fun i (h : i < B.length) => padL_lo B h)
  have HONE := hid (padL_one B)
  have HHI := hid (fun i (h : B.length < i) => padL_hi B h)
  have HEND := hid (show ∀ k, k = B.length / 8 → pkTo B (k + 1) = packL B from fun k hk => by rw [hk]; rfl)
  have HPS := hid (pkTo_succ B)
  have HPL := hid (pkTo_len B)
  clear hc hB
  generalize bl (padL B) = P at *
  generalize hN : B.length = N at *
  clear hN
  go_enter Try.func82, Try.ntmps82
  go_wp2
  go_loopw [3, 4, 5, 6] (fun o p f i wr => ∃ k r : Nat, r < 8 ∧ 8 * k + r ≤ N ∧ i = .int .i64 ((N : Int) - 1 - ((8 * k + r : Nat) : Int)) ∧ f = .int .i64 r ∧ p = .int .i64 (valF P (8 * k) r : Int) ∧ wr.ownsRow w.heap.size 5 1 o k ((ints (pkTo B k)).map (Value.int .u8)) ∧ Below w.heap.size w wr) (fun _ _ _ i _ => (intOf i + 1).toNat)
  case atStart => exact ⟨0, 0, by omega, by omega, by simp, rfl, rfl, World.ownsRow_nil _ _ _ _, Below.refl _ _⟩
  case round =>
    obtain ⟨k, r, hr, hkr, rfl, rfl, rfl, hown, hbel⟩ := hrel
    have hsz := hbel.size
    have hv := valF8 HP.out (8 * k) (n := r) (by omega)
    by_cases hlt : 8 * k + r < N
    · have HV := hid (show valF P (8 * k) (r + 1) = 2 * valF P (8 * k) r + P (8 * k + r) from rfl)
      have hv2 := valF8 HP.out (8 * k) (n := r + 1) (by omega)
      have hbit := HB.out (8 * k + r)
      have HPB := hid (HLO.out (8 * k + r) hlt)
      obtain ⟨m, hm⟩ : ∃ m, m = N - 1 - (8 * k + r) := ⟨_, rfl⟩
      have hmi : (N : Int) - 1 - ((8 * k + r : Nat) : Int) = (m : Int) := by omega
      have hmN : m < N := by omega
      have hcell : wr.cell? ⟨g, m, none⟩ = some (.int .u8 (bl B (8 * k + r) : Int)) := by
        have := (hbel.cell (p := ⟨g, m, none⟩) hg).trans (HC.out m hmN)
        rw [this, show N - 1 - m = 8 * k + r from by omega]
      have HM := hid hm
      rw [hmi]
      have HMI := hid hmi
      clear hm hmi
      generalize bl B (8 * k + r) = bb at *
      rw [HPB.out] at HV
      generalize valF P (8 * k) r = x at *
      by_cases c8 : r = 7
      · have c8' : ((r : Int) + 1 == 8) = true := by simp; omega
        have HX := hid (show valF P (8 * k) 8 = 2 * x + bb from by rw [← HV.out, c8])
        have hx8 : 2 * x + bb ≤ 255 := by rw [← HV.out]; exact hv2
        have HC8 := hid c8
        clear c8 HV hv2
        go_wp2_with (at_builtin; refine wpList_append_own _ rfl (.tmp 26) (.tmp 29) 29 rfl w.heap.size 5 i0 (.int .u8 0) 1 1 Try.underlying29 hi hz0 hz1 hz2 rfl (by decide) _ _ _ rfl (hown.alloc _) ⟨_, 0, none⟩ 1 1 [.int .u8 (2 * (x : Int) + (bb : Int))] rfl rfl (cell_one_new _ _ _) (by intro u hu; simp at hu; subst hu; rfl) (by unfold maxLen; omega) (by omega) (by simp; omega) ?_; intro v' w4 hown' hgrow _)
        go_roundw
        case rel =>
          have hown4 : w4.ownsRow w.heap.size 5 1 v' (k + 1) ((ints (pkTo B (k + 1))).map (Value.int .u8)) := by
            rw [HPS.out, HX.out]; simpa [ints] using hown'
          have bel4 := (hbel.alloc hsz _).grown hgrow (by simp; omega) (own_base hown)
          have hi4 : (m : Int) - 1 = (N : Int) - 1 - ((8 * (k + 1) + 0 : Nat) : Int) := by have := HM.out; have := HC8.out; omega
          have hc8 := HC8.out
          first
            | exact ⟨k + 1, 0, by omega, by omega, by rw [← hi4], rfl, rfl, hown4, bel4⟩
            | ((repeat apply Exists.intro); exact ⟨⟨k + 1, 0, by omega, by omega, by rw [← hi4], rfl, rfl, hown4, bel4⟩, rfl⟩)
        case measure => first | (simp [intOf]; done) | (simp [intOf]; omega)
      · have c8' : ((r : Int) + 1 == 8) = false := by simp; omega
        go_wp2
        go_roundw
        case rel =>
          refine ⟨k, r + 1, by omega, by omega, ?_, by go_num, by rw [HV.out]; go_num, hown, hbel⟩
          have := HM.out
          exact congrArg (Value.int .i64) (by omega)
        case measure => first | (simp [intOf]; done) | (simp [intOf]; omega)
    · have HKR := hid (show N = 8 * k + r from by omega)
      have hneg : (N : Int) - 1 - ((8 * k + r : Nat) : Int) = -1 := by omega
      rw [hneg]
      have HV1 := hid (show valF P (8 * k) (r + 1) = 2 * valF P (8 * k) r + 1 from by rw [valF, ← HKR.out, HONE.out])
      have HZ := hid (fun j (hj : r + 1 ≤ j) => show valF P (8 * k) (j + 1) = 2 * valF P (8 * k) j from by
        rw [valF, HHI.out (8 * k + j) (by have := HKR.out; omega)]; rfl)
      have hv1 := valF8 HP.out (8 * k) (n := r + 1) (by omega)
      rw [HV1.out] at hv1
      have HOW := hid hown
      have HBL := hid hbel
      clear hown hbel hneg
      go_wp2_with fail
      go_loopw [4, 5] (fun p f wi => ∃ j : Nat, r + 1 ≤ j ∧ j ≤ 8 ∧ f = .int .i64 j ∧ p = .int .i64 (valF P (8 * k) j : Int) ∧ wi = wr) (fun _ f _ => 8 - (intOf f).toNat)
      case atStart => exact ⟨r + 1, Nat.le_refl _, by omega, by go_num, by rw [HV1.out]; go_num, rfl⟩
      case round =>
        obtain ⟨j, hj1, hj2, rfl, rfl, rfl⟩ := hrel
        have hvj := valF8 HP.out (8 * k) (n := j) hj2
        by_cases hj8 : j < 8
        · have HZJ := hid (HZ.out j hj1)
          generalize valF P (8 * k) j = x at *
          go_wp2
          go_roundw
          case rel => exact ⟨j + 1, by omega, by omega, by go_num, by rw [HZJ.out]; go_num, trivial⟩
          case measure => first | (simp [intOf]; done) | (simp [intOf]; omega)
        · have HJ8 := hid (show j = 8 from by omega)
          have HE := hid (HEND.out k (by have := HKR.out; omega))
          rw [HPS.out, show valF P (8 * k) 8 = valF P (8 * k) j from by rw [HJ8.out]] at HE
          generalize valF P (8 * k) j = x at *
          have hown := HOW.out
          have hbel := HBL.out
          go_wp2_with (at_builtin; refine wpList_append_own _ rfl (.tmp 42) (.tmp 45) 29 rfl w.heap.size 5 i0 (.int .u8 0) 1 1 Try.underlying29 hi hz0 hz1 hz2 rfl (by decide) _ _ _ rfl (hown.alloc _) ⟨_, 0, none⟩ 1 1 [.int .u8 (x : Int)] rfl rfl (cell_one_new _ _ _) (by intro u hu; simp at hu; subst hu; rfl) (by unfold maxLen; omega) (by omega) (by simp; omega) ?_; intro v' w4 hown' hgrow _; have hown5 : w4.ownsRow w.heap.size 5 1 v' (k + 1) ((ints (packL B)).map (Value.int .u8)) := (by rw [← HE.out]; simpa [ints] using hown'); have hconv := conv_own (P := Try.prog) (dst := 9) Try.underlying29 Try.underlying5 Try.underlying9 hown5)
          go_ret
          exact ⟨rfl, (hbel.alloc hsz _).grown hgrow (by simp; omega) (own_base hown)⟩

/-! ### P5, P6: the walk of Write. -/
theorem jF_ge (q : Nat) : ∀ (f m i : Nat), i < jF q f m → 2 * q ≤ m / 2 ^ i := by
  intro f
  induction f with
  | zero => intro m i h; simp [jF] at h
  | succ f ih =>
    intro m i h
    rw [jF] at h
    by_cases c : m < 2 * q
    · rw [if_pos c] at h; omega
    · rw [if_neg c] at h
      cases i with
      | zero => simp; omega
      | succ i =>
        have := ih (m / 2) i (by omega)
        rw [Nat.div_div_eq_div_mul] at this
        rw [Nat.pow_succ, Nat.mul_comm (2 ^ i) 2]
        exact this
/-- A slice that is owned and not empty, written out. -/
theorem own_some {w : World} {base e : Nat} {v : Value} {n : Nat} {xs : List Value} (h : w.ownsRow base e 1 v n xs) (hn : 0 < n) : ∃ g cap, v = .slice (some ⟨g, 0, none⟩) n cap ∧ g < w.heap.size ∧ ∀ i, i < n → w.cell? ⟨g, i, none⟩ = xs[i]? := by
  have h2 := h.2
  rcases h2 with ⟨_, h0⟩ | ⟨g, cap, cur, rfl, hg, hgb, _⟩
  · omega
  · exact ⟨g, cap, rfl, (Array.getElem?_eq_some_iff.1 hgb).1, fun i hi => World.ownsRow.cellAt h i (by omega)⟩
theorem ret_pair {a b : ByteArray × Bool} (h : a = b) : Ending.returned (.tuple #[.string a.1, .bool a.2]) = .returned (.tuple #[.string b.1, .bool b.2]) := by rw [h]
def revV (F : List Nat) : List Value := (ints F.reverse).map (Value.int .u8)
theorem revV_cons (x : Nat) (F : List Nat) : revV (x :: F) = revV F ++ [.int .u8 (x : Int)] := by simp [revV, ints]
theorem revV_get (F : List Nat) (i : Nat) (h : i < F.length) : (revV F)[i]? = some (.int .u8 (bl F (F.length - 1 - i) : Int)) := by
  simp only [revV, ints, List.getElem?_map, List.getElem?_reverse h, bl, List.getD_eq_getElem?_getD]
  rw [List.getElem?_eq_getElem (by omega)]
  rfl

set_option maxRecDepth 100000 in
set_option maxHeartbeats 1600000 in
theorem write_any (t s : ByteArray) (b : Nat) (w : World) (h : Lyt w b (tOwn t) (tNum t) (tShr t)) (ht : TOk t) (hs : s.size ≤ 500) :
    Calls Try.prog 73 #[.pointer (some ⟨b, 0, none⟩), .string s] w fun e w' => e = .returned (.tuple #[.string (sqz t s).1, .bool (sqz t s).2]) ∧ Below w.heap.size w w' := by
  obtain ⟨i0, hi, hz0, hz1, hz2⟩ := info_parts Try.infoU8
  have hbs : b < w.heap.size := World.rowIs.lt h
  have hb := get_btn s
  have HT := hid ht
  clear ht
  go_enter Try.func73, Try.ntmps73
  go_wp2
  go_loopw [6, 7, 8, 9, 10] (fun v a i _ _ wr => ∃ c : Nat, c ≤ s.size ∧ i = .int .i64 ((s.size : Int) - 1 - (c : Int)) ∧ a = .int .i64 ((encT t s c).1 : Int) ∧ wr.ownsRow w.heap.size 5 1 v (encT t s c).2.length (revV (encT t s c).2) ∧ (∀ j, j < c → 1 ≤ tShr t (btn s (s.size - 1 - j))) ∧ Below w.heap.size w wr) (fun _ _ i _ _ _ => (intOf i + 1).toNat)
  case atStart => exact ⟨0, Nat.zero_le _, by simp, rfl, World.ownsRow_nil _ _ _ _, fun j hj => by omega, Below.refl _ _⟩
  case round =>
    obtain ⟨c, hc, rfl, rfl, hown, hsh, hbel⟩ := hrel
    have E := encOk HT.out c hsh
    have hlt := E.lt
    have hlen := E.len
    have HBIT := hid E.bit
    have HSH := hid hsh
    have hL := h.below hbel hbs
    have hsz := hbel.size
    clear hsh E
    by_cases hcn : c < s.size
    · have hidx : s.size - 1 - c < s.size := by omega
      have b1 := btn_lt s (s.size - 1 - c)
      have HEN := hid (show encT t s (c + 1) = (stS t (btn s (s.size - 1 - c)) (encT t s c).1, stB t (btn s (s.size - 1 - c)) (encT t s c).1 ++ (encT t s c).2) from rfl)
      generalize encT t s c = ec at *
      obtain ⟨a, bs⟩ := ec
      simp only at hlt hlen HEN HBIT hown ⊢
      have hshc := hid (share_any b _ _ _ (btn s (s.size - 1 - c)) wr hL b1)
      have hle := HT.out.le (btn s (s.size - 1 - c))
      have hdi : decide ((0 : Int) ≤ (s.size : Int) - 1 - (c : Int)) = true := by simp; omega
      by_cases hv : 1 ≤ tShr t (btn s (s.size - 1 - c))
      · obtain ⟨s1, s2, s3, s4, s5⟩ := HT.out.st hv hlt
        have HIT := hid (fun j (hj : j < stJ t (btn s (s.size - 1 - c)) a) => jF_ge (tShr t (btn s (s.size - 1 - c))) 7 (64 + a) j hj)
        have HEX := hid (show (64 + a) / 2 ^ stJ t (btn s (s.size - 1 - c)) a < 2 * tShr t (btn s (s.size - 1 - c)) from (half_spec (m := 64 + a) (by omega) (by omega) hv hle).2.1)
        have HSB := hid (show stB t (btn s (s.size - 1 - c)) a = digB (64 + a) (stJ t (btn s (s.size - 1 - c)) a) from rfl)
        have HV := hid hv
        have hd1 : decide ((tShr t (btn s (s.size - 1 - c)) : Int) < 1) = false := by simp; omega
        have HS1 := hid s1
        have HS2 := hid s2
        have HS3 := hid s3
        have HOW := hid hown
        have HBL := hid hbel
        clear hown hbel s1 s2 s3 s4 hL
        generalize hJ : stJ t (btn s (s.size - 1 - c)) a = J at *
        have HJ := hid hJ
        clear hJ
        generalize hQ : tShr t (btn s (s.size - 1 - c)) = Q at *
        have HQ := hid hQ
        clear hQ
        obtain ⟨w1, rfl⟩ : ∃ w1, w1 = wr := ⟨wr, rfl⟩
        go_wp2_with (go_at_call 80; refine Calls.mono hshc.out ?_; rintro e w' ⟨rfl, rfl⟩)
        go_loopw [6, 10] (fun v n wi => ∃ j q : Nat, j ≤ J ∧ q < 128 ∧ q = (64 + a) / 2 ^ j ∧ n = .int .i64 q ∧ wi.ownsRow w.heap.size 5 1 v (digB (64 + a) j ++ bs).length (revV (digB (64 + a) j ++ bs)) ∧ Below w.heap.size w wi) (fun _ n _ => (intOf n).toNat)
        case atStart => exact ⟨0, 64 + a, Nat.zero_le _, by omega, by simp, by go_num, HOW.out, HBL.out⟩
        case round =>
          obtain ⟨j, q, hj, hq, hqe, rfl, hown2, hb2⟩ := hrel
          have hs2 := hb2.size
          have HQE := hid hqe
          have hl2 : (digB (64 + a) j ++ bs).length ≤ 6 * c + 6 := by rw [List.length_append, digB_len]; omega
          by_cases hjJ : j < J
          · have h2q : 2 * Q ≤ q := by rw [hqe]; exact HIT.out j hjJ
            have HD := hid (show digB (64 + a) (j + 1) ++ bs = q % 2 :: (digB (64 + a) j ++ bs) from by rw [digB, hqe]; rfl)
            clear hqe
            generalize digB (64 + a) j ++ bs = F at *
            go_wp2_with (at_builtin; refine wpList_append_own _ rfl (.tmp 32) (.tmp 36) 29 rfl w.heap.size 5 i0 (.int .u8 0) 1 1 Try.underlying29 hi hz0 hz1 hz2 rfl (by decide) _ _ _ rfl (hown2.alloc _) ⟨_, 0, none⟩ 1 1 [.int .u8 ((q : Int) % 2)] rfl rfl (cell_one_new _ _ _) (by intro u hu; simp at hu; subst hu; rfl) (by unfold maxLen; omega) (by omega) (by simp; omega) ?_; intro v' w4 hown' hgrow _)
            go_roundw
            case rel =>
              have hown4 : w4.ownsRow w.heap.size 5 1 v' (digB (64 + a) (j + 1) ++ bs).length (revV (digB (64 + a) (j + 1) ++ bs)) := by
                rw [HD.out, revV_cons]; simpa using hown'
              have bel4 := (hb2.alloc hs2 _).grown hgrow (by simp; omega) (own_base hown2)
              have hq4 : q / 2 = (64 + a) / 2 ^ (j + 1) := by rw [HQE.out, Nat.pow_succ, Nat.div_div_eq_div_mul]
              first
                | exact ⟨j + 1, q / 2, by omega, by omega, hq4, by go_num, hown4, bel4⟩
                | ((repeat apply Exists.intro); exact ⟨⟨j + 1, q / 2, by omega, by omega, hq4, by go_num, hown4, bel4⟩, rfl⟩)
            case measure => simp [intOf]; omega
          · have HJJ := hid (show j = J from by omega)
            have h2q : q < 2 * Q := by rw [hqe, HJJ.out]; exact HEX.out
            have hL4 := h.below hb2 hbs
            have hcall := hid (slot_any b (tOwn t) (tNum t) (tShr t) (btn s (s.size - 1 - c)) q (stS t (btn s (s.size - 1 - c)) a) wr hL4 HS1.out HS2.out (by rw [HS3.out, hqe, HJJ.out]) (fun i hi ho hn => by
              have e : tNum t i = tNum t (stS t (btn s (s.size - 1 - c)) a) := by rw [hn, HS3.out, hqe, HJJ.out]
              have := num_inj (t := t) (a := i) (b := stS t (btn s (s.size - 1 - c)) a) (by rw [ho, HS2.out]) e
              omega))
            clear hqe
            go_wp2_with (go_at_call 81; refine Calls.mono hcall.out ?_; rintro e w' ⟨rfl, rfl⟩)
            go_roundw
            case rel =>
              refine ⟨c + 1, by omega, by go_num, by rw [HEN.out], ?_, fun i hi => ?_, hb2⟩
              · rw [HEN.out]; simp only; rw [HSB.out, ← HJJ.out]; exact hown2
              · rcases Nat.lt_or_ge i c with d | d
                · exact HSH.out i d
                · obtain rfl : i = c := by omega
                  rw [HQ.out]; exact HV.out
            case measure => simp [intOf]; omega
      · have HF := hid (allSh_no hidx hv)
        have HQ := hid (show sqz t s = (⟨#[]⟩, false) from by unfold sqz; rw [HF.out]; rfl)
        have hd1 : (tShr t (btn s (s.size - 1 - c)) : Int) < 1 := by omega
        clear hv
        go_wp2_with (go_at_call 80; refine Calls.mono hshc.out ?_; rintro e w' ⟨rfl, rfl⟩)
        go_ret2
        exact ⟨ret_pair HQ.out.symm, hbel⟩
    · have HCN := hid (show c = s.size from by omega)
      have HF := hid (allSh_yes (t := t) (s := s) (fun j hj => HSH.out j (by rw [HCN.out]; exact hj)))
      have HQ := hid (show sqz t s = (strN (packL (encB t s)), true) from by unfold sqz; rw [HF.out]; rfl)
      have HEB := hid (show encB t s = digB (encT t s c).1 6 ++ (encT t s c).2 from by rw [HCN.out]; rfl)
      have hdi : decide ((0 : Int) ≤ (s.size : Int) - 1 - (c : Int)) = false := by simp; omega
      generalize encT t s c = ec at *
      obtain ⟨a, bs⟩ := ec
      simp only at hlt hlen HBIT HEB hown ⊢
      have HOW := hid hown
      have HBL := hid hbel
      clear hown hbel
      obtain ⟨w1, rfl⟩ : ∃ w1, w1 = wr := ⟨wr, rfl⟩
      go_wp2_with fail
      go_loopw [6, 7, 11] (fun v n i wi => ∃ j q : Nat, j ≤ 6 ∧ q < 128 ∧ q = a / 2 ^ j ∧ n = .int .i64 q ∧ i = .int .i64 j ∧ wi.ownsRow w.heap.size 5 1 v (digB a j ++ bs).length (revV (digB a j ++ bs)) ∧ Below w.heap.size w wi) (fun _ _ i _ => 6 - (intOf i).toNat)
      case atStart => exact ⟨0, a, Nat.zero_le _, by omega, by simp, rfl, rfl, HOW.out, HBL.out⟩
      case round =>
        obtain ⟨j, q, hj, hq, hqe, rfl, rfl, hown2, hb2⟩ := hrel
        have hs2 := hb2.size
        have HQE := hid hqe
        have hl2 : (digB a j ++ bs).length ≤ 3006 := by rw [List.length_append, digB_len]; omega
        by_cases hjJ : j < 6
        · have HD := hid (show digB a (j + 1) ++ bs = q % 2 :: (digB a j ++ bs) from by rw [digB, hqe]; rfl)
          clear hqe
          generalize digB a j ++ bs = F at *
          go_wp2_with (at_builtin; refine wpList_append_own _ rfl (.tmp 50) (.tmp 54) 29 rfl w.heap.size 5 i0 (.int .u8 0) 1 1 Try.underlying29 hi hz0 hz1 hz2 rfl (by decide) _ _ _ rfl (hown2.alloc _) ⟨_, 0, none⟩ 1 1 [.int .u8 ((q : Int) % 2)] rfl rfl (cell_one_new _ _ _) (by intro u hu; simp at hu; subst hu; rfl) (by unfold maxLen; omega) (by omega) (by simp; omega) ?_; intro v' w4 hown' hgrow _)
          go_roundw
          case rel =>
            have hown4 : w4.ownsRow w.heap.size 5 1 v' (digB a (j + 1) ++ bs).length (revV (digB a (j + 1) ++ bs)) := by
              rw [HD.out, revV_cons]; simpa using hown'
            have bel4 := (hb2.alloc hs2 _).grown hgrow (by simp; omega) (own_base hown2)
            have hq4 : q / 2 = a / 2 ^ (j + 1) := by rw [HQE.out, Nat.pow_succ, Nat.div_div_eq_div_mul]
            first
              | exact ⟨j + 1, q / 2, by omega, by omega, hq4, by go_num, by go_num, hown4, bel4⟩
              | ((repeat apply Exists.intro); exact ⟨⟨j + 1, q / 2, by omega, by omega, hq4, by go_num, by go_num, hown4, bel4⟩, rfl⟩)
          case measure => simp [intOf]; omega
        · have HJJ := hid (show j = 6 from by omega)
          have HFE := hid (show digB a j ++ bs = encB t s from by rw [HEB.out, HJJ.out])
          rw [HFE.out] at hown2 hl2
          have hpos : 0 < (encB t s).length := by rw [HEB.out, List.length_append, digB_len]; omega
          have HBB := hid (show ∀ x ∈ encB t s, x < 2 from by
            rw [HEB.out]; intro x hx
            rcases List.mem_append.1 hx with hx | hx
            · exact digB_bit _ _ x hx
            · exact HBIT.out x hx)
          obtain ⟨g, cap, hv, hg, hcell⟩ := own_some hown2 hpos
          have hcall := hid (pack_any (encB t s) g cap wr HBB.out (by omega) hg (fun i hi => by rw [hcell i hi]; exact revV_get _ i hi))
          clear hcell hown2 hqe
          rw [hv]
          clear hv
          generalize strN (packL (encB t s)) = O at *
          generalize (encB t s).length = n at *
          go_wp2_with (go_at_call 82; refine Calls.mono hcall.out ?_; rintro e w5 ⟨rfl, b5⟩)
          go_ret2
          exact ⟨ret_pair HQ.out.symm, hb2.trans (b5.mono hs2)⟩

/-! ### P5: the walk of Squeeze. -/
/-- What Squeeze answers. -/
def sqAns (t s : ByteArray) : ByteArray × Int := if 500 < s.size then (⟨#[]⟩, 1) else if isTB t = false then (⟨#[]⟩, 3) else if allSh t s = false then (⟨#[]⟩, 4) else (strN (packL (encB t s)), 0)
theorem ret_ans {a b : ByteArray × Int} (h : a = b) : Ending.returned (.tuple #[.string a.1, .int .i64 a.2]) = .returned (.tuple #[.string b.1, .int .i64 b.2]) := by rw [h]

end Go.Proofs.Ytnconbpneimjiaa

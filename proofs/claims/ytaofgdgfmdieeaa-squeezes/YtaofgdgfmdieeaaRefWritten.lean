/-
  P5, P6: the walk of the document's written.
-/
import Derived.Test.YtaofgdgfmdieeaaRefFound
import Derived.Test.YtaofgdgfmdieeaaPlain
import Derived.Deep.RegionHeld3
namespace Go.Proofs.Ytaofgdgfmdieeaa
open Go.RowKit Go.PlainAid

theorem digits_int (x : Int) (k : Nat) (w : World) (h0 : 0 ≤ x) (hn : x < 4096) (hk : k ≤ 64) :
    Calls Try.prog 47 #[.int .i64 x, .int .i64 k] w fun e w' => e = .returned (.string (strOfNums (sgn (digB x.toNat k)))) ∧ Below w.heap.size w w' := by
  obtain ⟨n, rfl⟩ := Int.eq_ofNat_of_zero_le h0
  exact digits_any n k w (by omega) hk

theorem wrap_two {a n : Int} (h1 : 0 ≤ a ∧ a ≤ 64) (h2 : 0 ≤ n ∧ n ≤ 127) : IntKind.i64.wrap (IntKind.i64.wrap (64 + a) - IntKind.i64.wrap n) = 64 + a - n := by
  rw [IntWalk.i64_in (64 + a) ⟨by omega, by omega⟩, IntWalk.i64_in n ⟨by omega, by omega⟩, IntWalk.i64_in _ ⟨by omega, by omega⟩]
/-- One slot alone fits. -/
theorem TOk.uniq {t : ByteArray} (h : TOk t) {v a j : Nat} (hj : j < 64) (ho : tOwn t j = v) (hm : (64 + a) / 2 ^ kOf (tNum t j) = tNum t j) : stS t v a = j := by
  have e := Nat.div_add_mod (64 + a) (2 ^ kOf (tNum t j))
  rw [hm] at e
  have hb := Nat.mod_lt (64 + a) (Nat.two_pow_pos (kOf (tNum t j)))
  have b := h.back hj hb
  rw [Nat.mul_comm] at e
  rw [e, ho] at b
  rw [show 64 + a - 64 = a from by omega] at b
  exact b.2.2.1
theorem TOk.low {t : ByteArray} (h : TOk t) {v a : Nat} (hv : 1 ≤ tShr t v) (ha : a < 64) :
    0 ≤ 64 + (a : Int) - (tNum t (stS t v a) : Int) * 2 ^ kOf (tNum t (stS t v a)) ∧ 64 + (a : Int) - (tNum t (stS t v a) : Int) * 2 ^ kOf (tNum t (stS t v a)) < 64 ∧
    digB (64 + (a : Int) - (tNum t (stS t v a) : Int) * 2 ^ kOf (tNum t (stS t v a))).toNat (kOf (tNum t (stS t v a))) = stB t v a := by
  obtain ⟨h1, h2, h3, h4, h5⟩ := h.st hv ha
  have hm : (64 + a) / 2 ^ kOf (tNum t (stS t v a)) = tNum t (stS t v a) := by rw [h4, h3]
  have hb := Nat.mod_lt (64 + a) (Nat.two_pow_pos (kOf (tNum t (stS t v a))))
  have e := Nat.div_add_mod (64 + a) (2 ^ kOf (tNum t (stS t v a)))
  rw [hm, Nat.mul_comm] at e
  have hp := pow_bd (K := kOf (tNum t (stS t v a))) (by omega)
  have ei : 64 + (a : Int) - (tNum t (stS t v a) : Int) * 2 ^ kOf (tNum t (stS t v a)) = (((64 + a) % 2 ^ kOf (tNum t (stS t v a)) : Nat) : Int) := by
    have e2 : (((tNum t (stS t v a) * 2 ^ kOf (tNum t (stS t v a)) + (64 + a) % 2 ^ kOf (tNum t (stS t v a)) : Nat)) : Int) = ((64 + a : Nat) : Int) := by rw [e]
    push_cast at e2 ⊢
    omega
  rw [ei]
  refine ⟨by omega, ?_, ?_⟩
  · have : (((2 ^ kOf (tNum t (stS t v a)) : Nat)) : Int) ≤ 64 := by push_cast; exact hp.2
    omega
  · rw [Int.toNat_natCast]
    unfold stB
    rw [← h4]
    conv => rhs; rw [← e]
    rw [digB_mod]

theorem ret_str {a b : ByteArray} (h : a = b) : Ending.returned (.string a) = .returned (.string b) := by rw [h]
def wrt (t s : ByteArray) : ByteArray := if allSh t s then strOfNums (sgn (padL (encB t s))) else ⟨#[]⟩

set_option maxRecDepth 100000 in
set_option maxHeartbeats 800000 in
theorem written_any (t s : ByteArray) (g cap : Nat) (w : World) (h : Sls w g t) (ht : TOk t) (hs : s.size ≤ 500) :
    Calls Try.prog 44 #[.slice (some ⟨g, 0, none⟩) 64 cap, .string s] w fun e w' => e = .returned (.string (wrt t s)) ∧ Below w.heap.size w w' := by
  have hb := get_btn s
  have HT := hid ht
  clear ht
  go_enter Try.func44, Try.ntmps44
  go_wp2
  go_loopw [5, 6, 7, 8, 9] (fun a b i _ _ wr => ∃ c : Nat, c ≤ s.size ∧ i = .int .i64 ((s.size : Int) - 1 - (c : Int)) ∧ a = .int .i64 ((encT t s c).1 : Int) ∧ b = .string (strOfNums (sgn (encT t s c).2)) ∧ (∀ j, j < c → 1 ≤ tShr t (btn s (s.size - 1 - j))) ∧ Below w.heap.size w wr) (fun _ _ i _ _ _ => (intOf i + 1).toNat)
  case atStart => exact ⟨0, Nat.zero_le _, by simp, rfl, rfl, fun j hj => by omega, Below.refl _ _⟩
  case round =>
    obtain ⟨c, hc, rfl, rfl, rfl, hsh, hbel⟩ := hrel
    have E := encOk HT.out c hsh
    have hlt := E.lt
    have hlen : (strOfNums (sgn (encT t s c).2)).size ≤ 6 * c := by rw [strOfNums_size, sgn_len]; exact E.len
    have HSH := hid hsh
    have hS := h.below hbel
    have hsz := hbel.size
    clear hsh E
    by_cases hcn : c < s.size
    · have hidx : s.size - 1 - c < s.size := by omega
      have b1 := btn_lt s (s.size - 1 - c)
      have HEN := hid (show encT t s (c + 1) = (stS t (btn s (s.size - 1 - c)) (encT t s c).1, stB t (btn s (s.size - 1 - c)) (encT t s c).1 ++ (encT t s c).2) from rfl)
      generalize encT t s c = ec at *
      obtain ⟨a, bs⟩ := ec
      simp only at hlt hlen HEN ⊢
      by_cases hv : 1 ≤ tShr t (btn s (s.size - 1 - c))
      · obtain ⟨s1, s2, s3, s4, s5⟩ := HT.out.st hv hlt
        have hcall := hid (found_yes t g cap (btn s (s.size - 1 - c)) a (stS t (btn s (s.size - 1 - c)) a) wr hS HT.out hlt s1 s2 (by rw [s4, s3]) (fun j hj ho hm => by have := HT.out.uniq (a := a) (by omega) ho hm; omega))
        have low := HT.out.low hv hlt
        have hK : kOf (tNum t (stS t (btn s (s.size - 1 - c)) a)) ≤ 6 := by rw [s4]; exact s5
        have hp := pow_bd hK
        have hn1 := HT.out.num_bd s1
        have hn2 := HT.out.one _ s1
        have hn3 := HT.out.le (tOwn t (stS t (btn s (s.size - 1 - c)) a))
        have hl := low_bd hn2 hn1 hn3
        have hnN : (tNum t (stS t (btn s (s.size - 1 - c)) a) : Int) ≤ 127 := by omega
        obtain ⟨c1, c2, c3⟩ := hS.2 _ s1
        have HLO := hid low.2.2
        have low1 := low.1
        have low2 := low.2.1
        have HV := hid hv
        have hd0 : decide (((stS t (btn s (s.size - 1 - c)) a : Nat) : Int) < 0) = false := by simp
        clear low s2 s3 s4 s5 hn1 hn2 hn3 hv
        generalize stB t (btn s (s.size - 1 - c)) a = sb at *
        generalize stS t (btn s (s.size - 1 - c)) a = ss at *
        generalize tNum t ss = N at *
        generalize kOf N = K at *
        go_wp2_with (go_at_call 70; refine Calls.mono hcall.out ?_; rintro e w' ⟨rfl, nq, rfl⟩)
        have HWR := hid (show IntKind.i64.wrap (IntKind.i64.wrap (64 + (a : Int)) - IntKind.i64.wrap ((N : Int) * 2 ^ K)) = 64 + (a : Int) - (N : Int) * 2 ^ K from wrap_two (by omega) (by omega))
        have low3 : 64 + (a : Int) - (N : Int) * 2 ^ K < 4096 := by omega
        have hK64 : K ≤ 64 := by omega
        have hsi : (ss : Int) < 64 := by omega
        have hgS := hS.1
        go_region_held3 (fun w' => w'.cell? ⟨g, ss * 3 + 1, none⟩ = some (.int .i64 (N : Int)) ∧ w'.cell? ⟨g, ss * 3 + 2, none⟩ = some (.int .i64 (K : Int))) (first | go_keep | (refine ⟨?_, ?_⟩ <;> assumption) | assumption) (first | (go_at_call 47; rw [HWR.out]; refine (digits_int _ K _ low1 low3 hK64).mono ?_; rintro e w1 ⟨rfl, b1⟩; have k1 : w1.cell? ⟨g, ss * 3 + 1, none⟩ = some (.int .i64 (N : Int)) := (b1.cell (p := ⟨g, ss * 3 + 1, none⟩) hgS).trans c2; have k2 : w1.cell? ⟨g, ss * 3 + 2, none⟩ = some (.int .i64 (K : Int)) := (b1.cell (p := ⟨g, ss * 3 + 2, none⟩) hgS).trans c3))
        rw [HLO.out]
        have hlen2 : (strOfNums (sgn sb)).size ≤ 6 := by
          rw [← HLO.out, strOfNums_size, sgn_len, digB_len]; exact hK
        go_wp2
        go_roundw
        case rel =>
          refine ⟨c + 1, by omega, by go_num, by rw [HEN.out], by rw [HEN.out, sgn_append, str_append], fun j hj => ?_, ?_⟩
          · rcases Nat.lt_or_ge j c with d | d
            · exact HSH.out j d
            · obtain rfl : j = c := by omega
              exact HV.out
          · exact (Below.drewN hbel _).trans (b1.mono hsz)
        case measure => simp [intOf]; omega
      · have HF := hid (allSh_no hidx hv)
        have HQ := hid (show wrt t s = ⟨#[]⟩ from by unfold wrt; rw [HF.out]; rfl)
        have hcall := hid (found_no t g cap (btn s (s.size - 1 - c)) a wr hS HT.out hlt (fun j hj e => hv (by rw [← e]; exact HT.out.one j hj)))
        clear hv
        go_wp2_with (go_at_call 70; refine Calls.mono hcall.out ?_; rintro e w' ⟨rfl, nq, rfl⟩)
        go_ret
        exact ⟨ret_str HQ.out.symm, Below.drewN hbel _⟩
    · have HCN := hid (show c = s.size from by omega)
      have HF := hid (allSh_yes (t := t) (s := s) (fun j hj => HSH.out j (by rw [HCN.out]; exact hj)))
      have HQ := hid (show wrt t s = strOfNums (sgn (padL (encB t s))) from by unfold wrt; rw [HF.out]; rfl)
      have HEB := hid (show encB t s = digB (encT t s c).1 6 ++ (encT t s c).2 from by rw [HCN.out]; rfl)
      have hdi : decide ((0 : Int) ≤ (s.size : Int) - 1 - (c : Int)) = false := by simp; omega
      have hcall := hid (digits_any (encT t s c).1 6 wr (by omega) (by omega))
      have hone : (⟨#[49]⟩ : ByteArray).size = 1 := rfl
      have hone2 : (⟨#[48]⟩ : ByteArray).size = 1 := rfl
      have hlen6 : (strOfNums (sgn (digB (encT t s c).1 6))).size = 6 := by rw [strOfNums_size, sgn_len, digB_len]
      have HS1 := hid (show strOfNums (sgn (digB (encT t s c).1 6)) ++ strOfNums (sgn (encT t s c).2) ++ ⟨#[49]⟩ = strOfNums (sgn (encB t s ++ [1])) from by
        rw [str_append, show (⟨#[49]⟩ : ByteArray) = strOfNums (sgn [1]) from rfl, str_append, ← sgn_append, ← sgn_append, HEB.out])
      have HLE := hid (show (encB t s).length ≤ 3006 from by
        have e : (strOfNums (sgn (encT t s c).2)).size = (encT t s c).2.length := by rw [strOfNums_size, sgn_len]
        rw [HEB.out, List.length_append, digB_len]; omega)
      generalize strOfNums (sgn (digB (encT t s c).1 6)) = d6 at *
      generalize strOfNums (sgn (encT t s c).2) = db at *
      generalize (encT t s c).1 = a at *
      have hEle := HLE.out
      have HZ := hid (fun z => show strOfNums (sgn (encB t s ++ 1 :: List.replicate z 0)) ++ ⟨#[48]⟩ = strOfNums (sgn (encB t s ++ 1 :: List.replicate (z + 1) 0)) from by
        rw [show (⟨#[48]⟩ : ByteArray) = strOfNums (sgn [0]) from rfl, str_append, ← sgn_append, List.append_assoc, List.cons_append, List.replicate_succ'])
      have HSZ := hid (fun z => show (strOfNums (sgn (encB t s ++ 1 :: List.replicate z 0))).size = (encB t s).length + 1 + z from by
        rw [strOfNums_size, sgn_len]; simp; omega)
      have HP := hid (show padL (encB t s) = encB t s ++ 1 :: List.replicate (7 - (encB t s).length % 8) 0 from rfl)
      rw [HP.out] at HQ
      have H10 := hid (show strOfNums (sgn (encB t s ++ [1])) = strOfNums (sgn (encB t s ++ 1 :: List.replicate 0 0)) from rfl)
      clear HP HEB
      go_wp2_with (go_at_call 47; refine Calls.mono hcall.out ?_; rintro e w5 ⟨rfl, b5⟩)
      go_loopg [6] (7 - (encB t s).length % 8) (fun gk b wi => ∃ z : Nat, z + gk = 7 - (encB t s).length % 8 ∧ b = .string (strOfNums (sgn (encB t s ++ 1 :: List.replicate z 0))) ∧ wi = w5)
      case atStart => exact ⟨0, by omega, by rw [HS1.out, H10.out], rfl⟩
      case round =>
        obtain ⟨z, hz, rfl, rfl⟩ := hrel
        have hsz2 := HSZ.out z
        have HZZ := hid (HZ.out z)
        have hbel2 := hbel.trans (b5.mono hsz)
        by_cases hgk : z < 7 - (encB t s).length % 8
        · have hne : ((((encB t s).length : Int) + 1 + (z : Int)) % 8 != 0) = true := by simp; omega
          generalize (encB t s).length = n at *
          generalize strOfNums (sgn (encB t s ++ 1 :: List.replicate z 0)) = S at *
          go_wp2
          go_roundg (7 - n % 8 - (z + 1))
          case measure => omega
          case rel => exact ⟨z + 1, by omega, by rw [HZZ.out], rfl⟩
        · have hne : ((((encB t s).length : Int) + 1 + (z : Int)) % 8 != 0) = false := by simp; omega
          have HZE := hid (show z = 7 - (encB t s).length % 8 from by omega)
          rw [← HZE.out] at HQ
          clear HZE
          generalize (encB t s).length = n at *
          generalize strOfNums (sgn (encB t s ++ 1 :: List.replicate z 0)) = S at *
          go_wp2
          go_ret
          exact ⟨ret_str HQ.out.symm, hbel2⟩
end Go.Proofs.Ytaofgdgfmdieeaa

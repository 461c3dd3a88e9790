/-
  P7: the law Gathered.
-/
import Derived.Test.YtopegpilfoajhaaTrainLaw
import Derived.Test.YtopegpilfoajhaaBackLaw
import Derived.Test.YtopegpilfoajhaaPick
import Derived.OpenShut
namespace Go.Proofs.Ytopegpilfoajhaa
open Go.RowKit Go.PlainAid

set_option maxRecDepth 100000 in
set_option maxHeartbeats 400000 in
/-- A text that stands there is found. -/
theorem in_yes (p s : ByteArray) (w : World) (hs : s.size ≤ 1000) (j : Nat) (hj : j + p.size ≤ s.size) (he : s.extract j (j + p.size) = p) :
    Calls Try.prog 34 #[.string p, .string s] w fun e w' => e = .returned (.bool true) ∧ w' = w := by
  have HE := hid he
  clear he
  go_enter Try.func34, Try.ntmps34
  go_wp2
  go_loop [5] (fun v => ∃ i : Nat, i ≤ j ∧ v = .int .i64 i) (fun v => j - (intOf v).toNat)
  case atStart => exact ⟨0, Nat.zero_le _, rfl⟩
  case round =>
    obtain ⟨i, hi, rfl⟩ := hrel
    have hc : decide ((i : Int) + (p.size : Int) ≤ (s.size : Int)) = true := by simp; omega
    have hci : (i : Int) + (p.size : Int) ≤ (s.size : Int) := by omega
    have hbq := text_beq (s.extract i (i + p.size)) p
    by_cases hq : s.extract i (i + p.size) = p
    · have hq2 : ((s.extract i (i + p.size)).toList == p.toList) = true := by rw [hbq]; simpa using hq
      clear hq hbq
      go_wp2
      go_ret
      exact ⟨rfl, rfl⟩
    · have hq2 : ((s.extract i (i + p.size)).toList == p.toList) = false := by rw [hbq]; simpa using hq
      have hij : i < j := by
        rcases Nat.lt_or_ge i j with c | c
        · exact c
        · obtain rfl : i = j := by omega
          exact absurd HE.out hq
      clear hq hbq
      go_wp2
      go_round
      case rel => exact ⟨i + 1, by omega, by go_num⟩
      case measure => simp [intOf]; omega

/-- From the text on: all that Gathered does. -/
structure Gth (x : ByteArray) (n D K B : Nat) : Prop where
  h1 : 1 ≤ D
  h2 : D ≤ K
  h3 : K ≤ n
  h4 : n ≤ x.size
  h5 : K ≤ B
  h6 : B ≤ 500
  h7 : x.size ≤ 800
theorem Gth.err {x : ByteArray} {n D K B : Nat} (h : Gth x n D K B) : covErr x (K : Int) (D : Int) (B : Int) = 0 := by
  obtain ⟨h1, h2, h3, h4, h5, h6, h7⟩ := h
  exact covErr_ok (by omega) (by omega)
theorem Gth.cont {x : ByteArray} {n D K B : Nat} (h : Gth x n D K B) : Cont x K D B (cov x K D B) := Go.Proofs.Ytopegpilfoajhaa.cont h.h1 h.h2 (by have := h.h3; have := h.h4; omega) h.h5

set_option maxRecDepth 100000 in
set_option maxHeartbeats 1600000 in
theorem gathered_law (t : ByteArray) (k d B : Int) (w : World) (ht : t.size ≤ maxLen) (hk : (Lit.int .i64 k).wf = true) (hd : (Lit.int .i64 d).wf = true) (hB : (Lit.int .i64 B).wf = true) :
    Calls Try.prog 13 #[.string t, .int .i64 k, .int .i64 d, .int .i64 B] w fun e w' => e = .returned (.bool true) ∧ Below w.heap.size w w' := by
  have bk := bounds_i64 hk
  have bd := bounds_i64 hd
  have bB := bounds_i64 hB
  clear hk hd hB
  have HS := hid (some_any t w ht)
  go_enter Try.func13, Try.ntmps13
  go_wp2_with fail
  refine Calls.mono HS.out ?_
  rintro e w1 ⟨x, rfl, hx0, hx8, k1⟩
  rw [k1]
  clear k1 w1 HS ht
  by_cases hn : 500 < x.size
  · have hn' : (500 : Int) < (x.size : Int) := by omega
    obtain ⟨D, hD⟩ : ∃ D, 1 + pk d 500 = D := ⟨_, rfl⟩
    obtain ⟨K, hK⟩ : ∃ K, D + pk k (500 - D + 1) = K := ⟨_, rfl⟩
    obtain ⟨E, hE⟩ : ∃ E, K + pk B (500 - K + 1) = E := ⟨_, rfl⟩
    have l1 := pk_lt d (n := 500) (by omega)
    have l2 := pk_lt k (n := 500 - D + 1) (by omega)
    have l3 := pk_lt B (n := 500 - K + 1) (by omega)
    have G : Gth x 500 D K E := ⟨by omega, by omega, by omega, by omega, by omega, by omega, hx8⟩
    have P1 := hid (pk_any d 500 w bd.1 bd.2 (by omega) (by omega))
    have P2 := hid (pk_any k (500 - D + 1) w bk.1 bk.2 (by omega) (by omega))
    have P3 := hid (pk_any B (500 - K + 1) w bB.1 bB.2 (by omega) (by omega))
    have HCV := hid (cover_any x (K : Int) (D : Int) (E : Int) w (by unfold maxLen; omega))
    rw [covAns_yes G.err] at HCV
    simp only [Int.toNat_natCast] at HCV
    have C := G.cont
    have cge := C.ge
    have cle := C.le
    obtain ⟨a, ha, hla⟩ := C.last
    have HALL := hid C.all
    have eD : 1 + ((pk d 500 : Nat) : Int) = (D : Int) := by omega
    have eK : (D : Int) + ((pk k (500 - D + 1) : Nat) : Int) = (K : Int) := by omega
    have eE : (K : Int) + ((pk B (500 - K + 1) : Nat) : Int) = (E : Int) := by omega
    have em : (500 : Int) - (D : Int) + 1 = ((500 - D + 1 : Nat) : Int) := by omega
    have eb : 500 - (K : Int) + 1 = ((500 - K + 1 : Nat) : Int) := by omega
    have g1 := G.h1
    have g2 := G.h2
    have g3 := G.h3
    have g4 := G.h4
    have g5 := G.h5
    have g6 := G.h6
    clear C G hD hK hE
    generalize cov x K D E = c at *
    have hIN := hid (fun w => in_yes (lastN c K) x w (by omega) a (by rw [lastN_size _ cge]; exact ha) (by rw [lastN_size _ cge]; exact hla.symm))
    have HLE := hid (show lastN c K = c.extract (c.size - K) c.size from rfl)
    rw [HLE.out] at hIN
    clear hla HLE
    obtain ⟨m, hm⟩ : ∃ m : Nat, c.size - K = m := ⟨_, rfl⟩
    rw [hm] at hIN
    have hmi : (c.size : Int) - (K : Int) = (m : Int) := by omega
    have hm2 : m ≤ c.size := by omega
    clear hm
    generalize pk d 500 = p1 at *
    generalize pk k (500 - D + 1) = p2 at *
    generalize pk B (500 - K + 1) = p3 at *
    generalize 500 - D + 1 = n2 at *
    generalize 500 - K + 1 = n3 at *
    have z1 : decide ((c.size : Int) < (K : Int)) = false := by simp; omega
    have z2 : decide ((E : Int) < (c.size : Int)) = false := by simp; omega
    go_wp2_with fail
    refine Calls.mono P1.out ?_
    rintro e w1 ⟨rfl, k1⟩
    rw [k1]
    clear k1 w1
    go_wp2_with fail
    refine Calls.mono P2.out ?_
    rintro e w1 ⟨rfl, k1⟩
    rw [k1]
    clear k1 w1
    go_wp2_with fail
    refine Calls.mono P3.out ?_
    rintro e w1 ⟨rfl, k1⟩
    rw [k1]
    clear k1 w1
    go_wp2_with fail
    refine Calls.mono HCV.out ?_
    rintro e w2 ⟨rfl, b2⟩
    go_wp2_with fail
    refine Calls.mono (hIN.out _) ?_
    rintro e w3 ⟨rfl, k3⟩
    rw [k3]
    clear k3 w3
    go_wp2_with fail
    go_loop [13, 14] (fun o i => ∃ j : Nat, j ≤ x.size - D + 1 ∧ o = .bool true ∧ i = .int .i64 j) (fun _ i => x.size - D + 1 - (intOf i).toNat)
    case atStart => exact ⟨0, Nat.zero_le _, rfl, rfl⟩
    case round =>
      obtain ⟨j, hj, rfl, rfl⟩ := hrel
      by_cases hcE : c.size < E
      · have hcE' : decide ((c.size : Int) < (E : Int)) = true := by simp; omega
        by_cases hjD : j + D ≤ x.size
        · have hjD' : decide ((j : Int) + (D : Int) ≤ (x.size : Int)) = true := by simp; omega
          have hjDi : (j : Int) + (D : Int) ≤ (x.size : Int) := by omega
          obtain ⟨q, hq, hqe⟩ := HALL.out hcE j hjD
          have hps : (x.extract j (j + D)).size = D := by rw [ext_size _ _ _ hjD]; omega
          have hcall := hid (fun w => in_yes (x.extract j (j + D)) c w (by omega) q (by rw [hps]; exact hq) (by rw [hps]; exact hqe))
          clear hqe
          go_wp2_with (go_at_call 34; refine Calls.mono (hcall.out _) ?_; rintro e w' ⟨rfl, rfl⟩)
          go_round
          case rel => exact ⟨j + 1, by omega, rfl, by go_num⟩
          case measure => simp [intOf]; omega
        · have hjD' : decide ((j : Int) + (D : Int) ≤ (x.size : Int)) = false := by simp; omega
          go_wp2
          go_ret
          exact ⟨rfl, b2⟩
      · have hcE' : decide ((c.size : Int) < (E : Int)) = false := by simp; omega
        go_wp2
        go_ret
        exact ⟨rfl, b2⟩
  · have hn' : ¬ (500 : Int) < (x.size : Int) := by omega
    obtain ⟨D, hD⟩ : ∃ D, 1 + pk d x.size = D := ⟨_, rfl⟩
    obtain ⟨K, hK⟩ : ∃ K, D + pk k (x.size - D + 1) = K := ⟨_, rfl⟩
    obtain ⟨E, hE⟩ : ∃ E, K + pk B (500 - K + 1) = E := ⟨_, rfl⟩
    have l1 := pk_lt d (n := x.size) (by omega)
    have l2 := pk_lt k (n := x.size - D + 1) (by omega)
    have l3 := pk_lt B (n := 500 - K + 1) (by omega)
    have G : Gth x x.size D K E := ⟨by omega, by omega, by omega, by omega, by omega, by omega, hx8⟩
    have P1 := hid (pk_any d x.size w bd.1 bd.2 (by omega) (by omega))
    have P2 := hid (pk_any k (x.size - D + 1) w bk.1 bk.2 (by omega) (by omega))
    have P3 := hid (pk_any B (500 - K + 1) w bB.1 bB.2 (by omega) (by omega))
    have HCV := hid (cover_any x (K : Int) (D : Int) (E : Int) w (by unfold maxLen; omega))
    rw [covAns_yes G.err] at HCV
    simp only [Int.toNat_natCast] at HCV
    have C := G.cont
    have cge := C.ge
    have cle := C.le
    obtain ⟨a, ha, hla⟩ := C.last
    have HALL := hid C.all
    have eD : 1 + ((pk d x.size : Nat) : Int) = (D : Int) := by omega
    have eK : (D : Int) + ((pk k (x.size - D + 1) : Nat) : Int) = (K : Int) := by omega
    have eE : (K : Int) + ((pk B (500 - K + 1) : Nat) : Int) = (E : Int) := by omega
    have em : ((x.size : Nat) : Int) - (D : Int) + 1 = ((x.size - D + 1 : Nat) : Int) := by omega
    have eb : 500 - (K : Int) + 1 = ((500 - K + 1 : Nat) : Int) := by omega
    have g1 := G.h1
    have g2 := G.h2
    have g3 := G.h3
    have g4 := G.h4
    have g5 := G.h5
    have g6 := G.h6
    clear C G hD hK hE
    generalize cov x K D E = c at *
    have hIN := hid (fun w => in_yes (lastN c K) x w (by omega) a (by rw [lastN_size _ cge]; exact ha) (by rw [lastN_size _ cge]; exact hla.symm))
    have HLE := hid (show lastN c K = c.extract (c.size - K) c.size from rfl)
    rw [HLE.out] at hIN
    clear hla HLE
    obtain ⟨m, hm⟩ : ∃ m : Nat, c.size - K = m := ⟨_, rfl⟩
    rw [hm] at hIN
    have hmi : (c.size : Int) - (K : Int) = (m : Int) := by omega
    have hm2 : m ≤ c.size := by omega
    clear hm
    generalize pk d x.size = p1 at *
    generalize pk k (x.size - D + 1) = p2 at *
    generalize pk B (500 - K + 1) = p3 at *
    generalize x.size - D + 1 = n2 at *
    generalize 500 - K + 1 = n3 at *
    have z1 : decide ((c.size : Int) < (K : Int)) = false := by simp; omega
    have z2 : decide ((E : Int) < (c.size : Int)) = false := by simp; omega
    go_wp2_with fail
    refine Calls.mono P1.out ?_
    rintro e w1 ⟨rfl, k1⟩
    rw [k1]
    clear k1 w1
    go_wp2_with fail
    refine Calls.mono P2.out ?_
    rintro e w1 ⟨rfl, k1⟩
    rw [k1]
    clear k1 w1
    go_wp2_with fail
    refine Calls.mono P3.out ?_
    rintro e w1 ⟨rfl, k1⟩
    rw [k1]
    clear k1 w1
    go_wp2_with fail
    refine Calls.mono HCV.out ?_
    rintro e w2 ⟨rfl, b2⟩
    go_wp2_with fail
    refine Calls.mono (hIN.out _) ?_
    rintro e w3 ⟨rfl, k3⟩
    rw [k3]
    clear k3 w3
    go_wp2_with fail
    go_loop [13, 14] (fun o i => ∃ j : Nat, j ≤ x.size - D + 1 ∧ o = .bool true ∧ i = .int .i64 j) (fun _ i => x.size - D + 1 - (intOf i).toNat)
    case atStart => exact ⟨0, Nat.zero_le _, rfl, rfl⟩
    case round =>
      obtain ⟨j, hj, rfl, rfl⟩ := hrel
      by_cases hcE : c.size < E
      · have hcE' : decide ((c.size : Int) < (E : Int)) = true := by simp; omega
        by_cases hjD : j + D ≤ x.size
        · have hjD' : decide ((j : Int) + (D : Int) ≤ (x.size : Int)) = true := by simp; omega
          have hjDi : (j : Int) + (D : Int) ≤ (x.size : Int) := by omega
          obtain ⟨q, hq, hqe⟩ := HALL.out hcE j hjD
          have hps : (x.extract j (j + D)).size = D := by rw [ext_size _ _ _ hjD]; omega
          have hcall := hid (fun w => in_yes (x.extract j (j + D)) c w (by omega) q (by rw [hps]; exact hq) (by rw [hps]; exact hqe))
          clear hqe
          go_wp2_with (go_at_call 34; refine Calls.mono (hcall.out _) ?_; rintro e w' ⟨rfl, rfl⟩)
          go_round
          case rel => exact ⟨j + 1, by omega, rfl, by go_num⟩
          case measure => simp [intOf]; omega
        · have hjD' : decide ((j : Int) + (D : Int) ≤ (x.size : Int)) = false := by simp; omega
          go_wp2
          go_ret
          exact ⟨rfl, b2⟩
      · have hcE' : decide ((c.size : Int) < (E : Int)) = false := by simp; omega
        go_wp2
        go_ret
        exact ⟨rfl, b2⟩
end Go.Proofs.Ytopegpilfoajhaa

/-
  P10: the walks of Train, the law Trains.
-/
import Derived.Test.YtnconbpneimjiaaCovLaw
import Derived.Test.YtnconbpneimjiaaPlainF
import Derived.Test.YtnconbpneimjiaaTabLearn
import Derived.Test.YtnconbpneimjiaaBackMath
namespace Go.Proofs.Ytnconbpneimjiaa
open Go.RowKit Go.PlainAid

/-- What Train answers. -/
def trAns (id : Int) (s : ByteArray) (k d B : Int) : ByteArray × Int :=
  if covErr s k d B = 0 then (if id < 0 ∨ 65535 < id then (⟨#[]⟩, 2) else (wFile id.toNat (tabAns s).1 (cov s k.toNat d.toNat B.toNat), 0)) else (⟨#[]⟩, covErr s k d B)
theorem tabAns_ok {s : ByteArray} (h0 : 0 < s.size) (h1 : s.size ≤ 800) : tabAns s = (strOfNums (outTo (endSh (cntTo s s.size)) 256), 0) := by
  unfold tabAns; rw [if_neg (by omega), if_neg (by omega)]
theorem tab_is {s : ByteArray} (h0 : 0 < s.size) (h1 : s.size ≤ 800) : (tabAns s).2 = 0 ∧ isTB (tabAns s).1 = true := by
  rw [tabAns_ok h0 h1]
  exact ⟨rfl, (tab_of s h0).isT⟩
theorem learn_tab (s : ByteArray) (w : World) (h0 : 0 < s.size) (h1 : s.size ≤ 800) :
    Calls Try.prog 27 #[.string s] w fun e w' => e = .returned (.string (tabAns s).1) ∧ Below w.heap.size w w' := by
  rw [tabAns_ok h0 h1]
  exact learn_any s w h0 h1
theorem cov_bd {s : ByteArray} {k d B : Int} (h : covErr s k d B = 0) : 1 ≤ (cov s k.toNat d.toNat B.toNat).size ∧ (cov s k.toNat d.toNat B.toNat).size ≤ 500 := by
  obtain ⟨h1, h2, h3, h4, h5, h6⟩ := covErr_zero h
  have c := cont (s := s) (k := k.toNat) (d := d.toNat) (B := B.toNat) (by omega) (by omega) (by omega) (by omega)
  have := c.ge
  have := c.le
  omega

set_option maxRecDepth 100000 in
set_option maxHeartbeats 800000 in
theorem train_any (id : Int) (s : ByteArray) (k d B : Int) (w : World) (hs : s.size ≤ maxLen) :
    Calls Try.prog 20 #[.int .i64 id, .string s, .int .i64 k, .int .i64 d, .int .i64 B] w fun e w' => e = .returned (.tuple #[.string (trAns id s k d B).1, .int .i64 (trAns id s k d B).2]) ∧ Below w.heap.size w w' := by
  have HE := hid (coverErrno_any s k d B w hs)
  by_cases h : covErr s k d B = 0
  · obtain ⟨h1, h2, h3, h4, h5, h6⟩ := covErr_zero h
    have HI := hid (isId_any id w)
    rw [h] at HE
    by_cases hid' : 0 ≤ id ∧ id ≤ 65535
    · have HL := hid (learn_tab s w (by omega) h1)
      have HM := hid (fun w => make_int s k d B w h)
      have ht := isTB_size (tab_is (s := s) (by omega) h1).2
      have hc := (cov_bd h).2
      obtain ⟨n, rfl⟩ := Int.eq_ofNat_of_zero_le hid'.1
      have HW := hid (fun w => fWrite_any n (tabAns s).1 (cov s k.toNat d.toNat B.toNat) w (by omega) ht hc)
      have HA := hid (show trAns (n : Int) s k d B = (wFile n (tabAns s).1 (cov s k.toNat d.toNat B.toNat), 0) from by unfold trAns; rw [if_pos h, if_neg (by omega), Int.toNat_natCast])
      have hdi : decide ((0 : Int) ≤ (n : Int) ∧ (n : Int) ≤ 65535) = true := by simp; omega
      rw [hdi] at HI
      rw [HA.out]
      generalize wFile n (tabAns s).1 (cov s k.toNat d.toNat B.toNat) = F at *
      generalize cov s k.toNat d.toNat B.toNat = CV at *
      generalize (tabAns s).1 = T at *
      clear h HA hdi
      go_enter Try.func20, Try.ntmps20
      go_wp2_with fail
      refine Calls.mono HE.out ?_
      rintro e w1 ⟨rfl, k1⟩
      rw [k1]
      clear k1 w1
      go_wp2_with fail
      refine Calls.mono HI.out ?_
      rintro e w1 ⟨rfl, k1⟩
      rw [k1]
      clear k1 w1
      go_wp2_with fail
      refine Calls.mono HL.out ?_
      rintro e w1 ⟨rfl, b1⟩
      go_wp2_with fail
      refine Calls.mono (HM.out _) ?_
      rintro e w2 ⟨rfl, b2⟩
      go_wp2_with fail
      refine Calls.mono (HW.out _) ?_
      rintro e w3 ⟨rfl, b3⟩
      go_wp2
      go_ret2
      have B2 := b1.trans (b2.mono b1.size)
      exact ⟨rfl, B2.trans (b3.mono B2.size)⟩
    · have hdi : decide ((0 : Int) ≤ id ∧ id ≤ 65535) = false := by simp; omega
      rw [hdi] at HI
      have HA := hid (show trAns id s k d B = (⟨#[]⟩, 2) from by unfold trAns; rw [if_pos h, if_pos (by omega)])
      rw [HA.out]
      clear h HA hdi hid'
      go_enter Try.func20, Try.ntmps20
      go_wp2_with fail
      refine Calls.mono HE.out ?_
      rintro e w1 ⟨rfl, k1⟩
      rw [k1]
      clear k1 w1
      go_wp2_with fail
      refine Calls.mono HI.out ?_
      rintro e w1 ⟨rfl, k1⟩
      rw [k1]
      clear k1 w1
      go_wp2
      go_ret2
      exact ⟨rfl, Below.refl _ _⟩
  · have HA := hid (show trAns id s k d B = (⟨#[]⟩, covErr s k d B) from by unfold trAns; rw [if_neg h])
    rw [HA.out]
    have h' : (covErr s k d B != 0) = true := by simp [h]
    generalize covErr s k d B = E at *
    clear h HA
    go_enter Try.func20, Try.ntmps20
    go_wp2_with fail
    refine Calls.mono HE.out ?_
    rintro e w1 ⟨rfl, k1⟩
    rw [k1]
    clear k1 w1
    go_wp2
    go_ret2
    exact ⟨rfl, Below.refl _ _⟩

end Go.Proofs.Ytnconbpneimjiaa

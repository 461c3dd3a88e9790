/-
  P4: the walks of Learn and of Table.
-/
import Derived.Test.YtnconbpneimjiaaTabRefTable
import Derived.Test.YtnconbpneimjiaaPlainT
namespace Go.Proofs.Ytnconbpneimjiaa
open Go.RowKit Go.PlainAid

/-- A new tally's cells. -/
def tallyZero : Array Value := Array.replicate 513 (.int .i64 0)
theorem zero63 (w : World) : Sem.run Try.prog (zeroValue 91) w = .ok (.agg tallyZero) w := by kernel_rfl
theorem Tal.new (w : World) : Tal (w.alloc (.cells tallyZero 91)) w.heap.size (fun _ => 0) (fun _ => 0) 0 := by
  have h := World.rowIs_alloc w tallyZero 91 (tallyRow (fun _ => 0) (fun _ => 0) 0) (fun i hi => by
    have hi' : i < 513 := by simpa [tallyZero] using hi
    simp [tallyZero, tallyRow, tallyAt, hi'])
  unfold Tal
  simpa [tallyZero] using h

set_option maxRecDepth 100000 in
set_option maxHeartbeats 400000 in
theorem learn_any (s : ByteArray) (w : World) (h0 : 0 < s.size) (h1 : s.size ≤ 800) :
    Calls Try.prog 27 #[.string s] w fun e w' => e = .returned (.string (strOfNums (outTo (endSh (cntTo s s.size)) 256))) ∧ Below w.heap.size w w' := by
  have hT := tab_of s h0
  have hbd : ∀ v, 0 ≤ cntTo s s.size v ∧ cntTo s s.size v ≤ 800 := fun v => by have := cntTo_bd s s.size v; omega
  have hadm := admN_bd (cntTo s s.size) 32
  obtain ⟨m, hm⟩ := Int.eq_ofNat_of_zero_le hadm.1
  have hN : fillN (cntTo s s.size) = 64 - m := by unfold fillN; omega
  have HS := hid (hT.bd)
  have HN := hid (fun n => (hT.fil n).2)
  have HE : Hid (endSh (cntTo s s.size) = fillTo (cntTo s s.size) (admTo (cntTo s s.size) 32) (64 - m)) := by unfold Hid endSh; rw [hN]
  rw [hN] at HS
  have hm32 : m ≤ 32 := by omega
  have HC := hid (count_any w.heap.size s (fun _ => 0) 0 _ (by unfold maxLen; omega) (Tal.new w))
  have HB := hid (hbd)
  have HM := hid (hm)
  clear hT hbd hadm hm hN
  generalize cntTo s s.size = T at *
  obtain ⟨O, HO⟩ : ∃ O, Hid (strOfNums (outTo (endSh T) 256) = O) := ⟨_, rfl⟩
  rw [HO.out]
  have hz := zero63
  go_enter Try.func27, Try.ntmps27
  go_wp2_with fail
  refine Calls.mono HC.out ?_
  rintro e w1 ⟨rfl, t1, b1⟩
  go_wp2_with fail
  refine (admit_any _ _ _ t1).mono ?_
  rintro e w2 ⟨rfl, t2, b2⟩
  rw [HM.out] at t2
  go_wp2_with fail
  refine (fill_any _ _ _ m _ t2 (by omega) HB.out (fun n v hn => HS.out n hn v) (fun n _ => HN.out n)).mono ?_
  rintro e w3 ⟨rfl, t3, b3⟩
  rw [← HE.out] at t3
  have hs : ∀ v, 0 ≤ endSh T v ∧ endSh T v ≤ 64 := fun v => by rw [HE.out]; exact HS.out _ (Nat.le_refl _) v
  have hs' : Hid _ := hs
  clear hs
  have hcall := hid (table_any _ _ _ _ _ t3 hs'.out)
  have hb : Below w.heap.size w w3 := ((((Below.refl _ _).alloc (Nat.le_refl _) _).trans b1).trans b2).trans b3
  rw [HO.out] at hcall
  clear HO HS HN HE HC HB HM t1 t2 t3 hs' b1 b2 b3
  go_wp2_with fail
  refine Calls.mono hcall.out ?_
  rintro e w4 ⟨rfl, b4⟩
  go_wp2
  go_ret
  exact ⟨rfl, hb.trans (b4.mono (by omega))⟩

set_option maxRecDepth 100000 in
set_option maxHeartbeats 400000 in
theorem table_mid (s : ByteArray) (w : World) (h0 : 0 < s.size) (h1 : s.size ≤ 800) :
    Calls Try.prog 14 #[.string s] w fun e w' => e = .returned (.tuple #[.string (strOfNums (outTo (endSh (cntTo s s.size)) 256)), .int .i64 0]) ∧ Below w.heap.size w w' := by
  have h2 : ¬ (800 : Int) < (s.size : Int) := by omega
  have h3 : ((s.size : Int) == 0) = false := beq_eq_false_iff_ne.2 (by omega)
  have HC := hid (learn_any s w h0 h1)
  generalize strOfNums (outTo (endSh (cntTo s s.size)) 256) = t at *
  go_enter Try.func14, Try.ntmps14
  go_wp2_with fail
  refine Calls.mono HC.out ?_
  rintro e w1 ⟨rfl, b1⟩
  go_wp2
  go_ret2
  exact ⟨rfl, b1⟩
theorem table_long (s : ByteArray) (w : World) (h1 : 800 < s.size) (hs : s.size ≤ maxLen) :
    Calls Try.prog 14 #[.string s] w fun e w' => e = .returned (.tuple #[.string ⟨#[]⟩, .int .i64 1]) ∧ w' = w := by
  unfold maxLen at hs
  have h2 : (800 : Int) < (s.size : Int) := by omega
  go_enter Try.func14, Try.ntmps14
  go_wp2
  go_ret2
  exact ⟨rfl, rfl⟩
theorem table_empty (s : ByteArray) (w : World) (h1 : s.size = 0) :
    Calls Try.prog 14 #[.string s] w fun e w' => e = .returned (.tuple #[.string ⟨#[]⟩, .int .i64 2]) ∧ w' = w := by
  have h2 : ¬ (800 : Int) < (s.size : Int) := by omega
  have h3 : ((s.size : Int) == 0) = true := beq_iff_eq.2 (by omega)
  clear h1
  go_enter Try.func14, Try.ntmps14
  go_wp2
  go_ret2
  exact ⟨rfl, rfl⟩
/-- What Table answers. -/
def tabAns (s : ByteArray) : ByteArray × Int := if 800 < s.size then (⟨#[]⟩, 1) else if s.size = 0 then (⟨#[]⟩, 2) else (strOfNums (outTo (endSh (cntTo s s.size)) 256), 0)
theorem table_any2 (s : ByteArray) (w : World) (hs : s.size ≤ maxLen) :
    Calls Try.prog 14 #[.string s] w fun e w' => e = .returned (.tuple #[.string (tabAns s).1, .int .i64 (tabAns s).2]) ∧ Below w.heap.size w w' := by
  by_cases h1 : 800 < s.size
  · have e : tabAns s = (⟨#[]⟩, 1) := by rw [tabAns, if_pos h1]
    rw [e]
    refine (table_long s w h1 hs).mono ?_
    rintro e w' ⟨rfl, rfl⟩
    exact ⟨rfl, Below.refl _ _⟩
  · by_cases h2 : s.size = 0
    · have e : tabAns s = (⟨#[]⟩, 2) := by rw [tabAns, if_neg h1, if_pos h2]
      rw [e]
      refine (table_empty s w h2).mono ?_
      rintro e w' ⟨rfl, rfl⟩
      exact ⟨rfl, Below.refl _ _⟩
    · have e : tabAns s = (strOfNums (outTo (endSh (cntTo s s.size)) 256), 0) := by rw [tabAns, if_neg h1, if_neg h2]
      rw [e]
      exact table_mid s w (by omega) (by omega)
end Go.Proofs.Ytnconbpneimjiaa

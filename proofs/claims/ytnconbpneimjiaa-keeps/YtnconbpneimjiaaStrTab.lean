/-
  P5, P6: the walks of the two functions that tell whether a text is a table.
-/
import Derived.Test.YtnconbpneimjiaaTabWalks
import Derived.Test.YtnconbpneimjiaaPlain
namespace Go.Proofs.Ytnconbpneimjiaa
open Go.RowKit Go.PlainAid

theorem retB {a b : Bool} (h : a = b) : Ending.returned (.bool a) = .returned (.bool b) := by rw [h]

set_option maxRecDepth 100000 in
set_option maxHeartbeats 400000 in
theorem isTable_any (t : ByteArray) (w : World) (ht : t.size ≤ maxLen) :
    Calls Try.prog 29 #[.string t] w fun e w' => e = .returned (.bool (isTB t)) ∧ w' = w := by
  unfold maxLen at ht
  have hb := get_btn t
  by_cases hodd : t.size % 2 = 0
  · have ho : ((t.size : Int) % 2 != 0) = false := by simp; omega
    by_cases hlong : 128 < t.size
    · have HE := hid (isTB_long hlong)
      have hl : (128 : Int) < (t.size : Int) := by omega
      go_enter Try.func29, Try.ntmps29
      go_wp2
      go_ret
      exact ⟨retB HE.out.symm, rfl⟩
    · have hl : ¬ (128 : Int) < (t.size : Int) := by omega
      go_enter Try.func29, Try.ntmps29
      go_wp2
      go_loop [3, 4, 5, 6, 7] (fun lst tot i _ _ => ∃ k : Nat, 2 * k ≤ t.size ∧ i = .int .i64 (2 * (k : Int)) ∧ lst = .int .i64 (lastV t k) ∧ tot = .int .i64 (totS t k : Int) ∧ goodTo t k ∧ totS t k ≤ 64 * k) (fun _ _ i _ _ => t.size - (intOf i).toNat)
      case atStart => exact ⟨0, Nat.zero_le _, rfl, rfl, rfl, fun j hj => by omega, by simp [totS]⟩
      case round =>
        obtain ⟨k, hk, rfl, rfl, rfl, hg, hts⟩ := hrel
        by_cases hlt : 2 * k + 1 < t.size
        · have b1 := btn_lt t (2 * k)
          have b2 := btn_lt t (2 * k + 1)
          have HT := hid (show totS t (k + 1) = totS t k + btn t (2 * k + 1) from rfl)
          have HLs := hid (lastV_succ t k)
          have HG := hid ((goodTo_succ t k).2)
          have HB := hid (fun h => isTB_bad (t := t) (k := k) (by omega) h)
          have HO := hid (fun h => isTB_over (t := t) (k := k + 1) (by omega) h)
          have HL := hid (lastV_lt t k)
          generalize totS t k = ts at *
          generalize lastV t k = L at *
          by_cases c1 : (btn t (2 * k) : Int) ≤ L
          · have HF := hid (HB.out (fun h => by have := HL.out.2 h.2; omega))
            clear HB HO HL HG HT HLs
            go_wp2
            go_ret
            exact ⟨retB HF.out.symm, rfl⟩
          · have c1' : decide ((btn t (2 * k) : Int) ≤ L) = false := by simp; omega
            by_cases c2 : (btn t (2 * k + 1) : Int) < 1
            · have HF := hid (HB.out (fun h => by omega))
              clear HB HO HL HG HT HLs
              go_wp2
              go_ret
              exact ⟨retB HF.out.symm, rfl⟩
            · have c2' : decide ((btn t (2 * k + 1) : Int) < 1) = false := by simp; omega
              by_cases c3 : (64 : Int) < (btn t (2 * k + 1) : Int)
              · have HF := hid (HO.out (by rw [HT.out]; omega))
                clear HB HO HL HG HT HLs
                go_wp2
                go_ret
                exact ⟨retB HF.out.symm, rfl⟩
              · have c3' : decide ((64 : Int) < (btn t (2 * k + 1) : Int)) = false := by simp; omega
                have HF := hid (HG.out ⟨hg, by omega, HL.out.1 (by omega)⟩)
                clear HB HO HL HG
                go_wp2
                go_round
                case rel => exact ⟨k + 1, by omega, by go_num, by rw [HLs.out], by rw [HT.out]; go_num, HF.out, by rw [HT.out]; omega⟩
                case measure => simp [intOf]; omega
        · have HK := hid (show k = t.size / 2 from by omega)
          have HF := hid (isTB_end hodd (by rw [← HK.out]; exact hg))
          go_wp2
          go_ret
          refine ⟨retB ?_, rfl⟩
          rw [HF.out, ← HK.out]
          rw [Bool.eq_iff_iff]; simp; omega
  · have ho : ((t.size : Int) % 2 != 0) = true := by simp; omega
    have HE := hid (isTB_odd hodd)
    go_enter Try.func29, Try.ntmps29
    go_wp2
    go_ret
    exact ⟨retB HE.out.symm, rfl⟩

end Go.Proofs.Ytnconbpneimjiaa

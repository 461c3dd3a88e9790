/-
  P6: the walk of Unsqueeze.
-/
import Derived.Test.YtaofgdgfmdieeaaReadRead
namespace Go.Proofs.Ytaofgdgfmdieeaa
open Go.RowKit Go.PlainAid

/-- What Unsqueeze answers. -/
def usAns (t s : ByteArray) (n : Int) : ByteArray × Int :=
  if 1000 < s.size then (⟨#[]⟩, 1) else if n < 0 ∨ 500 < n then (⟨#[]⟩, 2) else if isTB t = false then (⟨#[]⟩, 3) else if rdOk t s n.toNat = false then (⟨#[]⟩, 5) else (strN (outT t s n.toNat), 0)

set_option maxRecDepth 100000 in
set_option maxHeartbeats 800000 in
theorem unsqueeze_any (t s : ByteArray) (n : Int) (w : World) (ht : t.size ≤ maxLen) (hs : s.size ≤ maxLen) :
    Calls Try.prog 22 #[.string t, .string s, .int .i64 n] w fun e w' => e = .returned (.tuple #[.string (usAns t s n).1, .int .i64 (usAns t s n).2]) ∧ Below w.heap.size w w' := by
  by_cases hl : 1000 < s.size
  · have HA := hid (show usAns t s n = (⟨#[]⟩, 1) from by unfold usAns; rw [if_pos hl])
    unfold maxLen at hs
    have hl' : (1000 : Int) < (s.size : Int) := by omega
    go_enter Try.func22, Try.ntmps22
    go_wp2
    go_ret2
    exact ⟨ret_ans HA.out.symm, Below.refl _ _⟩
  · have hl' : ¬ (1000 : Int) < (s.size : Int) := by omega
    by_cases hn0 : n < 0
    · have HA := hid (show usAns t s n = (⟨#[]⟩, 2) from by unfold usAns; rw [if_neg hl, if_pos (Or.inl hn0)])
      go_enter Try.func22, Try.ntmps22
      go_wp2
      go_ret2
      exact ⟨ret_ans HA.out.symm, Below.refl _ _⟩
    · have hn0' : decide (n < 0) = false := by simp; omega
      by_cases hn5 : 500 < n
      · have HA := hid (show usAns t s n = (⟨#[]⟩, 2) from by unfold usAns; rw [if_neg hl, if_pos (Or.inr hn5)])
        go_enter Try.func22, Try.ntmps22
        go_wp2
        go_ret2
        exact ⟨ret_ans HA.out.symm, Below.refl _ _⟩
      · have hn5' : decide (500 < n) = false := by simp; omega
        have hz := zeroV48
        cases hT : isTB t
        · have HA := hid (show usAns t s n = (⟨#[]⟩, 3) from by unfold usAns; rw [if_neg hl, if_neg (by omega), if_pos hT])
          have hcall := hid (lay_no t w ht hT)
          clear hT
          go_enter Try.func22, Try.ntmps22
          go_wp2_with fail
          refine Calls.mono hcall.out ?_
          rintro e w1 ⟨rfl, b1⟩
          have r1 : (w1.alloc (.cells zero48 61)).rowIs w1.heap.size 61 384 zeroRow := row48 w1
          go_wp2_with (refine wpList_store_rowIs rfl 61 (.tmp 8) (.tmp 24) rfl w1.heap.size rfl 61 384 zeroRow zeroRow r1 rfl Try.size48 (fun i _ => layRow_one _ _ _ i) ?_; intro w2 q2 b2 o2 s2)
          go_ret2
          exact ⟨ret_ans HA.out.symm, (b1.alloc b1.size _).trans (b2.mono b1.size)⟩
        · have hok := tok hT
          have hcall := hid (lay_yes t w ht hT)
          have HA := hid (show usAns t s n = if rdOk t s n.toNat = false then (⟨#[]⟩, 5) else (strN (outT t s n.toNat), 0) from by unfold usAns; rw [if_neg hl, if_neg (by omega), if_neg (by rw [hT]; simp)])
          obtain ⟨m, rfl⟩ := Int.eq_ofNat_of_zero_le (show 0 ≤ n from by omega)
          rw [Int.toNat_natCast] at HA
          have HW := hid (fun b w h => read_any t s m b w h hok (by omega) (by omega))
          clear hT hok
          go_enter Try.func22, Try.ntmps22
          go_wp2_with fail
          refine Calls.mono hcall.out ?_
          rintro e w1 ⟨rfl, b1⟩
          have r1 : (w1.alloc (.cells zero48 61)).rowIs w1.heap.size 61 384 zeroRow := row48 w1
          go_wp2_with (refine wpList_store_rowIs rfl 61 (.tmp 8) (.tmp 24) rfl w1.heap.size rfl 61 384 zeroRow (tabRow t) r1 rfl Try.size48 (fun i _ => layRow_one _ _ _ i) ?_; intro w2 q2 b2 o2 s2)
          have hcw := hid (HW.out w1.heap.size w2 q2)
          have hb2 : Below w.heap.size w w2 := (b1.alloc b1.size _).trans (b2.mono b1.size)
          clear hcall r1 b1 b2 q2 o2 s2
          cases hA : rdOk t s m
          · rw [rd_no hA] at hcw
            rw [if_pos hA] at HA
            clear hA
            refine Calls.mono hcw.out ?_
            rintro e w3 ⟨rfl, b3⟩
            go_wp2
            go_ret2
            exact ⟨ret_ans HA.out.symm, hb2.trans (b3.mono hb2.size)⟩
          · rw [rd_yes hA] at hcw
            rw [if_neg (by rw [hA]; simp)] at HA
            clear hA
            refine Calls.mono hcw.out ?_
            rintro e w3 ⟨rfl, b3⟩
            go_wp2
            go_ret2
            exact ⟨ret_ans HA.out.symm, hb2.trans (b3.mono hb2.size)⟩
end Go.Proofs.Ytaofgdgfmdieeaa

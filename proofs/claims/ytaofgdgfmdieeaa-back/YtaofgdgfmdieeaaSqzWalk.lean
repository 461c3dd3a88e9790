/-
  P5: the walk of Squeeze.
-/
import Derived.Test.YtaofgdgfmdieeaaWriteWalk
namespace Go.Proofs.Ytaofgdgfmdieeaa
open Go.RowKit Go.PlainAid

/-- What Squeeze answers. -/
def sqAns (t s : ByteArray) : ByteArray × Int := if 500 < s.size then (⟨#[]⟩, 1) else if isTB t = false then (⟨#[]⟩, 3) else if allSh t s = false then (⟨#[]⟩, 4) else (strN (packL (encB t s)), 0)
theorem ret_ans {a b : ByteArray × Int} (h : a = b) : Ending.returned (.tuple #[.string a.1, .int .i64 a.2]) = .returned (.tuple #[.string b.1, .int .i64 b.2]) := by rw [h]

set_option maxRecDepth 100000 in
set_option maxHeartbeats 800000 in
theorem squeeze_any (t s : ByteArray) (w : World) (ht : t.size ≤ maxLen) (hs : s.size ≤ maxLen) :
    Calls Try.prog 20 #[.string t, .string s] w fun e w' => e = .returned (.tuple #[.string (sqAns t s).1, .int .i64 (sqAns t s).2]) ∧ Below w.heap.size w w' := by
  by_cases hl : 500 < s.size
  · have HA := hid (show sqAns t s = (⟨#[]⟩, 1) from by unfold sqAns; rw [if_pos hl])
    unfold maxLen at hs
    have hl' : (500 : Int) < (s.size : Int) := by omega
    go_enter Try.func20, Try.ntmps20
    go_wp2
    go_ret2
    exact ⟨ret_ans HA.out.symm, Below.refl _ _⟩
  · have hl' : ¬ (500 : Int) < (s.size : Int) := by omega
    have hz := zeroV48
    cases hT : isTB t
    · have HA := hid (show sqAns t s = (⟨#[]⟩, 3) from by unfold sqAns; rw [if_neg hl, if_pos hT])
      have hcall := hid (lay_no t w ht hT)
      clear hT
      go_enter Try.func20, Try.ntmps20
      go_wp2_with fail
      refine Calls.mono hcall.out ?_
      rintro e w1 ⟨rfl, b1⟩
      have r1 : (w1.alloc (.cells zero48 61)).rowIs w1.heap.size 61 384 zeroRow := row48 w1
      go_wp2_with (refine wpList_store_rowIs rfl 61 (.tmp 6) (.tmp 16) rfl w1.heap.size rfl 61 384 zeroRow zeroRow r1 rfl Try.size48 (fun i _ => layRow_one _ _ _ i) ?_; intro w2 q2 b2 o2 s2)
      go_ret2
      exact ⟨ret_ans HA.out.symm, (b1.alloc b1.size _).trans (b2.mono b1.size)⟩
    · have hok := tok hT
      have hcall := hid (lay_yes t w ht hT)
      have HA := hid (show sqAns t s = if allSh t s = false then (⟨#[]⟩, 4) else (strN (packL (encB t s)), 0) from by unfold sqAns; rw [if_neg hl, if_neg (by rw [hT]; simp)])
      have HW := hid (fun b w h => write_any t s b w h hok (by omega))
      have HOK := hid hok
      clear hT hok
      go_enter Try.func20, Try.ntmps20
      go_wp2_with fail
      refine Calls.mono hcall.out ?_
      rintro e w1 ⟨rfl, b1⟩
      have r1 : (w1.alloc (.cells zero48 61)).rowIs w1.heap.size 61 384 zeroRow := row48 w1
      go_wp2_with (refine wpList_store_rowIs rfl 61 (.tmp 6) (.tmp 16) rfl w1.heap.size rfl 61 384 zeroRow (tabRow t) r1 rfl Try.size48 (fun i _ => layRow_one _ _ _ i) ?_; intro w2 q2 b2 o2 s2)
      have hcw := hid (HW.out w1.heap.size w2 q2)
      have hb2 : Below w.heap.size w w2 := (b1.alloc b1.size _).trans (b2.mono b1.size)
      clear hcall r1 b1 b2 q2 o2 s2
      cases hA : allSh t s
      · have e1 : sqz t s = (⟨#[]⟩, false) := by unfold sqz; rw [hA]; rfl
        rw [e1] at hcw
        rw [if_pos hA] at HA
        clear hA e1
        refine Calls.mono hcw.out ?_
        rintro e w3 ⟨rfl, b3⟩
        go_wp2
        go_ret2
        exact ⟨ret_ans HA.out.symm, hb2.trans (b3.mono hb2.size)⟩
      · have e1 : sqz t s = (strN (packL (encB t s)), true) := by unfold sqz; rw [hA]; rfl
        rw [e1] at hcw
        rw [if_neg (by rw [hA]; simp)] at HA
        clear hA e1
        refine Calls.mono hcw.out ?_
        rintro e w3 ⟨rfl, b3⟩
        go_wp2
        go_ret2
        exact ⟨ret_ans HA.out.symm, hb2.trans (b3.mono hb2.size)⟩
end Go.Proofs.Ytaofgdgfmdieeaa

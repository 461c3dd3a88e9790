/-
  P11, P12, plain: sizes; a body played to its end.
-/
import Derived.Test.YtnconbpneimjiaaFrmBack
namespace Go.Proofs.Ytnconbpneimjiaa
open Go.PlainAid

theorem sqAns_size (t s : ByteArray) : (sqAns t s).1.size ≤ 1000 := by
  unfold sqAns
  split
  · show 0 ≤ 1000; omega
  · split
    · show 0 ≤ 1000; omega
    · split
      · show 0 ≤ 1000; omega
      · rename_i h1 h2 h3
        have b := back_math (t := t) (x := s) (by simpa using h2) (by simpa using h3) (by omega)
        have := b.2.2.1
        show (strN (packL (encB t s))).size ≤ 1000
        omega
theorem enAns_long {f r : ByteArray} (h : 500 < r.size) : enAns f r = (⟨#[]⟩, 1) := by unfold enAns; rw [if_pos h]
theorem enAns_file {f r : ByteArray} (h : ¬ 500 < r.size) (h2 : ¬ pOk f) : enAns f r = (⟨#[]⟩, 6) := by
  have : pOkB f = false := by
    cases hq : pOkB f
    · rfl
    · exact absurd ((pOkB_iff f).1 hq) h2
  unfold enAns; rw [if_neg h, if_pos this]
theorem enAns_ok {f r : ByteArray} (h : ¬ 500 < r.size) (h2 : pOk f) : enAns f r = (enFrm f r, 0) := by
  unfold enAns; rw [if_neg h, if_neg (by rw [(pOkB_iff f).2 h2]; simp)]
theorem enBody_size (t c r : ByteArray) (hr : r.size ≤ 500) : (enBody t c r).size ≤ 4000 := by
  have hall : (c ++ r).size = c.size + r.size := ByteArray.size_append
  have hbd := bodS_bd (c ++ r) (r.size + 1) c.size 0 (by omega)
  have hA : bodA c r = bodS (c ++ r) (r.size + 1) c.size ⟨#[]⟩ ⟨#[]⟩ 0 0 := rfl
  rw [← hA] at hbd
  have h1 := looB_le t (bodA c r).1
  have h2 := ctB_size (bodA c r).1.size
  have h3 := ctB_size (bodA c r).2.2
  unfold enBody
  simp only [ByteArray.size_append]
  omega
/-- Played on from a state, to its end. -/
def plEnd (c b : ByteArray) (size : Nat) (o : Option (Int × ByteArray × ByteArray)) : Option ByteArray :=
  match o with
  | none => none
  | some (a, all, lo) => if a = (b.size : Int) ∧ (all ++ lo).size = c.size + size then some ((all ++ lo).extract c.size (all ++ lo).size) else none
theorem plEnd_none (c b : ByteArray) (size : Nat) : plEnd c b size none = none := rfl
theorem plEnd_some (c b : ByteArray) (size : Nat) (a : Int) (A L : ByteArray) : plEnd c b size (some (a, A, L)) = if a = (b.size : Int) ∧ (A ++ L).size = c.size + size then some ((A ++ L).extract c.size (A ++ L).size) else none := rfl
theorem plAns_is (t c b : ByteArray) (size : Nat) : plAns t c b size = plEnd c b size (plS b (c.size + size) (ctAt b (lsAns t b).2).1 (ctAt b (lsAns t b).2).2 c (lsAns t b).1) := rfl
end Go.Proofs.Ytnconbpneimjiaa

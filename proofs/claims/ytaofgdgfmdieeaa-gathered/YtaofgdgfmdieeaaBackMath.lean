/-
  P4 to P6, plain: what is learned is a table.
-/
import Derived.Test.YtaofgdgfmdieeaaBackTab
import Derived.Test.YtaofgdgfmdieeaaUnsWalk
namespace Go.Proofs.Ytaofgdgfmdieeaa
open Go.PlainAid

/-- Every value of a table has a share. -/
theorem tShr_pos {t : ByteArray} (h : isTB t = true) {k : Nat} (hk : k < t.size / 2) : 1 ≤ tShr t (btn t (2 * k)) := by
  obtain ⟨_, hg, _⟩ := isTB_yes h
  have := shTab_hit hg hk
  show 1 ≤ shTab t (t.size / 2) (btn t (2 * k))
  rw [this]
  exact (hg k hk).1
/-- The bytes that are picked. -/
def pickTo (t s : ByteArray) : Nat → List Nat
  | 0 => []
  | k + 1 => pickTo t s k ++ [btn t (2 * (btn s k % (t.size / 2)))]
theorem pickTo_len (t s : ByteArray) (k : Nat) : (pickTo t s k).length = k := by
  induction k with
  | zero => rfl
  | succ k ih => rw [pickTo, List.length_append, ih]; rfl
theorem pickTo_mem {t s : ByteArray} (hL : 1 ≤ t.size / 2) {k : Nat} : ∀ x ∈ pickTo t s k, ∃ j, j < t.size / 2 ∧ x = btn t (2 * j) := by
  induction k with
  | zero => intro x hx; simp [pickTo] at hx
  | succ k ih =>
    intro x hx
    rw [pickTo, List.mem_append] at hx
    rcases hx with hx | hx
    · exact ih x hx
    · rw [List.mem_singleton] at hx
      exact ⟨_, Nat.mod_lt _ hL, hx⟩
theorem pick_allSh {t s : ByteArray} (h : isTB t = true) (hL : 1 ≤ t.size / 2) (k : Nat) : allSh t (strN (pickTo t s k)) = true := by
  simp only [allSh, decide_eq_true_eq]
  intro i hi
  rw [strN_size] at hi
  rw [strN_btn _ (fun x hx => by obtain ⟨j, _, rfl⟩ := pickTo_mem hL x hx; exact btn_lt _ _)]
  rw [List.getD_eq_getElem?_getD, List.getElem?_eq_getElem hi]
  obtain ⟨j, hj, e⟩ := pickTo_mem hL _ (List.getElem_mem hi)
  simp only [Option.getD_some]
  rw [e]
  exact tShr_pos h hj
theorem back_math {t x : ByteArray} (h : isTB t = true) (hx : allSh t x = true) (hn : x.size ≤ 500) :
    sqAns t x = (strN (packL (encB t x)), 0) ∧ 1 ≤ (strN (packL (encB t x))).size ∧ 8 * (strN (packL (encB t x))).size ≤ 6 * x.size + 14 ∧ usAns t (strN (packL (encB t x))) (x.size : Int) = (x, 0) := by
  have hk := tok h
  have hx' : ∀ j, j < x.size → 1 ≤ tShr t (btn x (x.size - 1 - j)) := by
    simp only [allSh, decide_eq_true_eq] at hx
    intro j hj
    exact hx _ (by omega)
  have hlen : (encB t x).length ≤ 6 + 6 * x.size := by
    have := (encOk hk x.size hx').len
    unfold encB
    rw [List.length_append, digB_len]; omega
  have hsz : (strN (packL (encB t x))).size = (encB t x).length / 8 + 1 := by rw [strN_size]; simp [packL]
  obtain ⟨r1, r2⟩ := round hk hx rfl
  refine ⟨?_, by omega, by omega, ?_⟩
  · unfold sqAns
    rw [if_neg (by omega), if_neg (by rw [h]; simp), if_neg (by rw [hx]; simp)]
  · unfold usAns
    rw [if_neg (by omega), if_neg (by omega), if_neg (by rw [h]; simp), Int.toNat_natCast, if_neg (by rw [r1]; simp), r2]
end Go.Proofs.Ytaofgdgfmdieeaa

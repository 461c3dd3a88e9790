/-
  The keep's helpers: upTo, some, file.
-/
import Derived.Test.YtnconbpneimjiaaGreatFileParse
import Derived.Test.YtnconbpneimjiaaGreatTabLearn
import Derived.Test.YtnconbpneimjiaaGreatBackMath
import Derived.Test.YtnconbpneimjiaaGreatPick
namespace Go.Proofs.YtnconbpneimjiaaGreat
open Go.RowKit Go.PlainAid

theorem ret_k {a b : ByteArray} (h : a = b) : Ending.returned (.string a) = .returned (.string b) := by rw [h]
def upN (s : ByteArray) (n : Nat) : ByteArray := if n < s.size then s.extract 0 n else s
def smN (s : ByteArray) (n : Nat) : ByteArray := if s.size = 0 then ⟨#[103]⟩ else upN s n
theorem upN_le (s : ByteArray) (n : Nat) : (upN s n).size ≤ n := by
  unfold upN
  split
  · rw [ext_size _ _ _ (by omega)]; omega
  · omega
theorem smN_bd (s : ByteArray) {n : Nat} (h : 1 ≤ n) : 1 ≤ (smN s n).size ∧ (smN s n).size ≤ n := by
  unfold smN
  split
  · have e : (⟨#[103]⟩ : ByteArray).size = 1 := rfl
    omega
  · refine ⟨?_, upN_le s n⟩
    unfold upN
    split
    · rw [ext_size _ _ _ (by omega)]; omega
    · omega
/-- The file that the keep makes. -/
def kFile (id : Int) (text content : ByteArray) : ByteArray := wFile (pk id 65536) (tabAns (smN text 800)).1 (smN content 500)
theorem tab_ok {s : ByteArray} (h0 : 0 < s.size) (h1 : s.size ≤ 800) : (tabAns s).2 = 0 ∧ isTB (tabAns s).1 = true := by
  have e : tabAns s = (strOfNums (outTo (endSh (cntTo s s.size)) 256), 0) := by unfold tabAns; rw [if_neg (by omega), if_neg (by omega)]
  rw [e]
  exact ⟨rfl, (tab_of s h0).isT⟩
theorem isTB_two {t : ByteArray} (h : isTB t = true) : 2 ≤ t.size := by
  obtain ⟨h1, h2, h3⟩ := (isTB_iff t).1 h
  rcases Nat.lt_or_ge t.size 2 with c | c
  · have e : t.size / 2 = 0 := by omega
    rw [e] at h3
    simp [totS] at h3
  · exact c
theorem kFile_ok (id : Int) (text content : ByteArray) : pOk (kFile id text content) ∧ (pAns (kFile id text content)).2.2.1 = smN content 500 ∧ (kFile id text content).size ≤ 1000 ∧ num (kFile id text content) 3 2 = pk id 65536 := by
  have h1 := smN_bd text (n := 800) (by omega)
  have h2 := smN_bd content (n := 500) (by omega)
  have ht := (tab_ok (s := smN text 800) (by omega) h1.2).2
  have hid := pk_lt id (n := 65536) (by omega)
  obtain ⟨p1, p2, p3, p4⟩ := file_read (id := pk id 65536) (t := (tabAns (smN text 800)).1) (c := smN content 500) (by omega) ht h2.1 h2.2
  have hs := wFile_size (pk id 65536) (tabAns (smN text 800)).1 (smN content 500)
  have hts := isTB_size ht
  unfold kFile
  refine ⟨p1, ?_, by omega, p2⟩
  rw [pAns_yes p1, p3, p4]
  show (wFile (pk id 65536) (tabAns (smN text 800)).1 (smN content 500)).extract (6 + (tabAns (smN text 800)).1.size + 2) (8 + (tabAns (smN text 800)).1.size + (smN content 500).size) = smN content 500
  rw [show 6 + (tabAns (smN text 800)).1.size + 2 = 8 + (tabAns (smN text 800)).1.size from by omega]
  exact wFile_con _ _ _
end Go.Proofs.YtnconbpneimjiaaGreat

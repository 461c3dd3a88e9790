/-
  The keep's helpers: upTo, some, file.
-/
import Derived.Test.YtnconbpneimjiaaFileParse
import Derived.Test.YtnconbpneimjiaaTabLearn
import Derived.Test.YtnconbpneimjiaaBackMath
import Derived.Test.YtnconbpneimjiaaPick
namespace Go.Proofs.Ytnconbpneimjiaa
open Go.RowKit Go.PlainAid

theorem ret_k {a b : ByteArray} (h : a = b) : Ending.returned (.string a) = .returned (.string b) := by rw [h]
def upN (s : ByteArray) (n : Nat) : ByteArray := if n < s.size then s.extract 0 n else s
def smN (s : ByteArray) (n : Nat) : ByteArray := if s.size = 0 then ⟨#[103]⟩ else upN s n
theorem upN_le (s : ByteArray) (n : Nat) : (upN s n).size ≤ n := by
  unfold upN
  split
  · rw [ext_size _ _ _ (by omega)]; omega
  · omega
theorem smN_bd (s : ByteArray) {n : Nat} (h : 1 ≤ n) : 1 ≤ (smN s n).size ∧ (smN s n).size ≤ n := by
  unfold smN
  split
  · have e : (⟨#[103]⟩ : ByteArray).size = 1 := rfl
    omega
  · refine ⟨?_, upN_le s n⟩
    unfold upN
    split
    · rw [ext_size _ _ _ (by omega)]; omega
    · omega
set_option maxRecDepth 100000 in
theorem upTo_any (s : ByteArray) (n : Nat) (w : World) (_hs : s.size ≤ maxLen) (_hn : n ≤ 1000) :
    Calls Try.prog 17 #[.string s, .int .i64 n] w fun e w' => e = .returned (.string (upN s n)) ∧ w' = w := by
  by_cases h : n < s.size
  · have HE := hid (show upN s n = s.extract 0 n from by unfold upN; rw [if_pos h])
    have h' : (n : Int) < (s.size : Int) := by omega
    go_enter Try.func17, Try.ntmps17
    go_wp2
    go_ret
    exact ⟨ret_k HE.out.symm, rfl⟩
  · have HE := hid (show upN s n = s from by unfold upN; rw [if_neg h])
    have h' : ¬ (n : Int) < (s.size : Int) := by omega
    go_enter Try.func17, Try.ntmps17
    go_wp2
    go_ret
    exact ⟨ret_k HE.out.symm, rfl⟩
set_option maxRecDepth 100000 in
theorem someN_any (s : ByteArray) (n : Nat) (w : World) (hs : s.size ≤ maxLen) (hn : n ≤ 1000) :
    Calls Try.prog 8 #[.string s, .int .i64 n] w fun e w' => e = .returned (.string (smN s n)) ∧ w' = w := by
  have HU := hid (upTo_any s n w hs hn)
  unfold maxLen at hs
  by_cases h : s.size = 0
  · have HE := hid (show smN s n = ⟨#[103]⟩ from by unfold smN; rw [if_pos h])
    have h' : ((s.size : Int) == 0) = true := by simp [h]
    clear h
    go_enter Try.func8, Try.ntmps8
    go_wp2
    go_ret
    exact ⟨ret_k HE.out.symm, rfl⟩
  · have HE := hid (show smN s n = upN s n from by unfold smN; rw [if_neg h])
    have h' : ((s.size : Int) == 0) = false := beq_eq_false_iff_ne.2 (by omega)
    generalize upN s n = U at *
    go_enter Try.func8, Try.ntmps8
    go_wp2_with fail
    refine Calls.mono HU.out ?_
    rintro e w1 ⟨rfl, k1⟩
    rw [k1]
    clear k1 w1
    go_wp2
    go_ret
    exact ⟨ret_k HE.out.symm, rfl⟩
/-- The file that the keep makes. -/
def kFile (id : Int) (text content : ByteArray) : ByteArray := wFile (pk id 65536) (tabAns (smN text 800)).1 (smN content 500)
theorem tab_ok {s : ByteArray} (h0 : 0 < s.size) (h1 : s.size ≤ 800) : (tabAns s).2 = 0 ∧ isTB (tabAns s).1 = true := by
  have e : tabAns s = (strOfNums (outTo (endSh (cntTo s s.size)) 256), 0) := by unfold tabAns; rw [if_neg (by omega), if_neg (by omega)]
  rw [e]
  exact ⟨rfl, (tab_of s h0).isT⟩
theorem isTB_two {t : ByteArray} (h : isTB t = true) : 2 ≤ t.size := by
  obtain ⟨h1, h2, h3⟩ := (isTB_iff t).1 h
  rcases Nat.lt_or_ge t.size 2 with c | c
  · have e : t.size / 2 = 0 := by omega
    rw [e] at h3
    simp [totS] at h3
  · exact c
theorem kFile_ok (id : Int) (text content : ByteArray) : pOk (kFile id text content) ∧ (pAns (kFile id text content)).2.2.1 = smN content 500 ∧ (kFile id text content).size ≤ 1000 ∧ num (kFile id text content) 3 2 = pk id 65536 := by
  have h1 := smN_bd text (n := 800) (by omega)
  have h2 := smN_bd content (n := 500) (by omega)
  have ht := (tab_ok (s := smN text 800) (by omega) h1.2).2
  have hid := pk_lt id (n := 65536) (by omega)
  obtain ⟨p1, p2, p3, p4⟩ := file_read (id := pk id 65536) (t := (tabAns (smN text 800)).1) (c := smN content 500) (by omega) ht h2.1 h2.2
  have hs := wFile_size (pk id 65536) (tabAns (smN text 800)).1 (smN content 500)
  have hts := isTB_size ht
  unfold kFile
  refine ⟨p1, ?_, by omega, p2⟩
  rw [pAns_yes p1, p3, p4]
  show (wFile (pk id 65536) (tabAns (smN text 800)).1 (smN content 500)).extract (6 + (tabAns (smN text 800)).1.size + 2) (8 + (tabAns (smN text 800)).1.size + (smN content 500).size) = smN content 500
  rw [show 6 + (tabAns (smN text 800)).1.size + 2 = 8 + (tabAns (smN text 800)).1.size from by omega]
  exact wFile_con _ _ _
set_option maxRecDepth 100000 in
set_option maxHeartbeats 800000 in
theorem keepFile_any (id : Int) (text content : ByteArray) (w : World) (b0 : -9223372036854775808 ≤ id) (b1 : id ≤ 9223372036854775807) (ht : text.size ≤ maxLen) (hc : content.size ≤ maxLen) :
    Calls Try.prog 5 #[.int .i64 id, .string text, .string content] w fun e w' => e = .returned (.tuple #[.string (kFile id text content), .bool true]) ∧ Below w.heap.size w w' := by
  have h1 := smN_bd text (n := 800) (by omega)
  have h2 := smN_bd content (n := 500) (by omega)
  have htb := tab_ok (s := smN text 800) (by omega) h1.2
  have hpk := pk_lt id (n := 65536) (by omega)
  have K1 := hid (someN_any text 800 w ht (by omega))
  have K2 := hid (fun w => table_any2 (smN text 800) w (by unfold maxLen; omega))
  rw [htb.1] at K2
  have K3 := hid (fun w => someN_any content 500 w hc (by omega))
  have K4 := hid (fun w => pk_any id 65536 w b0 b1 (by omega) (by omega))
  have ht2 := isTB_size htb.2
  have hts := isTB_two htb.2
  have K5 := hid (fun w => write_file (pk id 65536 : Int) (tabAns (smN text 800)).1 (smN content 500) w (by unfold maxLen; omega) (by unfold maxLen; omega))
  rw [wrAns_ok (by omega) (by omega) htb.2, Int.toNat_natCast] at K5
  have hfs := wFile_size (pk id 65536) (tabAns (smN text 800)).1 (smN content 500)
  have HK := hid (show kFile id text content = wFile (pk id 65536) (tabAns (smN text 800)).1 (smN content 500) from rfl)
  rw [HK.out]
  have hfe : ((wFile (pk id 65536) (tabAns (smN text 800)).1 (smN content 500)).size : Int) = 12 + ((tabAns (smN text 800)).1.size : Int) + ((smN content 500).size : Int) := by omega
  clear HK htb hfs
  generalize wFile (pk id 65536) (tabAns (smN text 800)).1 (smN content 500) = F at *
  generalize (tabAns (smN text 800)).1 = T at *
  generalize smN text 800 = X at *
  generalize smN content 500 = C at *
  generalize pk id 65536 = I at *
  have hq : ((F.size : Int) == 12 + (T.size : Int) + (C.size : Int)) = true := by rw [beq_iff_eq]; exact hfe
  have hT2 : decide ((T.size : Int) < 2) = false := by simp; omega
  have HFE := hid hfe
  have hF : F.size ≤ 1000 := by omega
  clear hfe
  go_enter Try.func5, Try.ntmps5
  go_wp2_with fail
  refine Calls.mono K1.out ?_
  rintro e w1 ⟨rfl, k1⟩
  rw [k1]
  clear k1 w1
  go_wp2_with fail
  refine Calls.mono (K2.out _) ?_
  rintro e w2 ⟨rfl, b2⟩
  go_wp2_with fail
  refine Calls.mono (K3.out _) ?_
  rintro e w3 ⟨rfl, k3⟩
  rw [k3]
  clear k3 w3
  go_wp2_with fail
  refine Calls.mono (K4.out _) ?_
  rintro e w4 ⟨rfl, k4⟩
  rw [k4]
  clear k4 w4
  go_wp2_with fail
  refine Calls.mono (K5.out _) ?_
  rintro e w5 ⟨rfl, b5⟩
  go_wp2
  go_ret2
  exact ⟨rfl, b2.trans (b5.mono b2.size)⟩
end Go.Proofs.Ytnconbpneimjiaa

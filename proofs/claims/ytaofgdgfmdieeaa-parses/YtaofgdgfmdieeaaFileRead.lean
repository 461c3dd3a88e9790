/-
  P9: the walks of Parse.
-/
import Derived.Test.YtaofgdgfmdieeaaFileWrite
import Derived.Test.YtaofgdgfmdieeaaRowLaws
import Derived.BigQuiet
namespace Go.Proofs.Ytaofgdgfmdieeaa
open Go.RowKit Go.PlainAid

theorem rnumE (f : ByteArray) (a b : Nat) (w : World) (h : a ≤ b) (hb : b ≤ f.size) (h4 : b - a ≤ 4) :
    Calls Try.prog 80 #[.string (f.extract a b)] w fun e w' => e = .returned (.int .i64 (num f a (b - a) : Int)) ∧ w' = w := by
  have hs := ext_size f a b hb
  have h := rnum_any (f.extract a b) w (by omega)
  rw [hs, num_ext f a b (by omega) hb] at h
  exact h
theorem text_beq (a b : ByteArray) : (a.toList == b.toList) = decide (a = b) := by
  rw [Bool.eq_iff_iff, beq_iff_eq, decide_eq_true_iff, ByteArray.toList_eq, ByteArray.toList_eq]
  exact ⟨fun h => ByteArray.ext (Array.toList_inj.mp h), fun h => by rw [h]⟩
theorem mk3_beq (x : ByteArray) : (x.toList == [71, 68, 1]) = decide (x = mk3) := by
  rw [← text_beq, ByteArray.toList_eq mk3]; rfl
def fileV (i : Int) (t c : ByteArray) (s : Int) : Value := .agg #[.int .i64 i, .string t, .string c, .int .i64 s]

def fRow (i : Int) (t c : ByteArray) (s : Int) (j : Nat) : Value := if j = 0 then .int .i64 i else if j = 1 then .string t else if j = 2 then .string c else .int .i64 s
theorem fRow_one (i : Int) (t c : ByteArray) (s : Int) (j : Nat) : (fRow i t c s j).oneCell' = true := by
  unfold fRow
  split
  · rfl
  · split
    · rfl
    · split <;> rfl
theorem fRow_new (w : World) : (w.alloc (.cells #[.int .i64 0, .string ⟨#[]⟩, .string ⟨#[]⟩, .int .i64 0] 82)).rowIs w.heap.size 82 4 (fRow 0 ⟨#[]⟩ ⟨#[]⟩ 0) :=
  World.rowIs_alloc w #[.int .i64 0, .string ⟨#[]⟩, .string ⟨#[]⟩, .int .i64 0] 82 (fRow 0 ⟨#[]⟩ ⟨#[]⟩ 0) (fun i hi => by
    have hi' : i < 4 := hi
    match i, hi' with
    | 0, _ => rfl
    | 1, _ => rfl
    | 2, _ => rfl
    | 3, _ => rfl)
theorem sizeFile : (Try.prog.info? 82).map (·.size) = some 4 := by kernel_rfl

set_option maxRecDepth 100000 in
set_option maxHeartbeats 1600000 in
theorem read_yes (f : ByteArray) (p L : Nat) (w : World) (hf : f.size ≤ maxLen) (hp : btn f 5 = p) (hL : num f (6 + 2 * p) 2 = L) (h1 : 12 + 2 * p + L = f.size) (h2 : f.extract 0 3 = mk3)
    (h3 : isTB (f.extract 6 (6 + 2 * p)) = true) (h4 : 1 ≤ L) (h5 : L ≤ 500) (b : Bool) (h7 : (num f (6 + 2 * p + 2 + L) 4 == wSum (f.extract 0 (6 + 2 * p + 2 + L))) = b) :
    Calls Try.prog 58 #[.string f] w fun e w' => e = .returned (.tuple #[if b then fileV (num f 3 2) (f.extract 6 (6 + 2 * p)) (f.extract (6 + 2 * p + 2) (6 + 2 * p + 2 + L)) (wSum (f.extract 0 (6 + 2 * p + 2 + L)) : Nat) else fileV 0 ⟨#[]⟩ ⟨#[]⟩ 0, .bool b]) ∧ Below w.heap.size w w' := by
  unfold maxLen at hf
  have hb := get_btn f
  have hp1 := btn_lt f 5
  have R1 := hid (fun w => rnumE f 3 5 w (by omega) (by omega) (by omega))
  have R2 := hid (fun w => rnumE f (6 + 2 * p) (6 + 2 * p + 2) w (by omega) (by omega) (by omega))
  have R3 := hid (fun w => rnumE f (6 + 2 * p + 2 + L) f.size w (by omega) (by omega) (by omega))
  have HT := hid (fun w => isTable_any (f.extract 6 (6 + 2 * p)) w (by rw [ext_size _ _ _ (by omega)]; unfold maxLen; omega))
  have HS := hid (fun w => ofW_any (f.extract 0 (6 + 2 * p + 2 + L)) w (by rw [ext_size _ _ _ (by omega)]; unfold maxLen; omega))
  rw [h3] at HT
  rw [show 6 + 2 * p + 2 - (6 + 2 * p) = 2 from by omega, hL] at R2
  rw [show f.size - (6 + 2 * p + 2 + L) = 4 from by omega] at R3
  have hm : ((f.extract 0 3).toList == [71, 68, 1]) = true := by rw [mk3_beq, h2]; simp
  have s1 : 12 + 2 * p + L ≤ f.size := by omega
  have s2 : f.size ≤ 12 + 2 * p + L := by omega
  have d0 : decide ((f.size : Int) < 6) = false := by simp; omega
  have d1 : decide ((L : Int) < 1) = false := by simp; omega
  have d2 : decide ((500 : Int) < (L : Int)) = false := by simp; omega
  have d3 : ((f.size : Int) != 6 + 2 * (p : Int) + 2 + (L : Int) + 4) = false := by simp; omega
  rw [hp] at hp1
  have hb5 : ∀ (h : 5 < f.size), ((f[5]'h).toNat : Int) = (p : Int) := fun h => by rw [hb 5 h, hp]
  have hs0 := wSum_lt (f.extract 0 (6 + 2 * p + 2 + L))
  have hn0 := num_lt f (6 + 2 * p + 2 + L) 4
  have h7' : ((num f (6 + 2 * p + 2 + L) 4 : Int) != (wSum (f.extract 0 (6 + 2 * p + 2 + L)) : Int)) = !b := by
    rw [← h7, bne]; congr 1; rw [Bool.eq_iff_iff]; simp; omega
  clear hb h7 h3 h2 hL h1 hp
  generalize wSum (f.extract 0 (6 + 2 * p + 2 + L)) = S at *
  generalize num f (6 + 2 * p + 2 + L) 4 = N4 at *
  generalize num f 3 2 = N2 at *
  go_enter Try.func58, Try.ntmps58
  go_wp2_with fail
  refine Calls.mono (R1.out _) ?_
  rintro e w1 ⟨rfl, k1⟩
  rw [k1]
  clear k1 w1
  go_wp2_with fail
  refine Calls.mono (R2.out _) ?_
  rintro e w1 ⟨rfl, k1⟩
  rw [k1]
  clear k1 w1
  go_wp2_with fail
  refine Calls.mono (HT.out _) ?_
  rintro e w1 ⟨rfl, k1⟩
  rw [k1]
  clear k1 w1
  have hI1 : 6 + 2 * (p : Int) + 2 + (L : Int) ≤ (f.size : Int) := by omega
  have hI0 : 0 ≤ 6 + 2 * (p : Int) + 2 + (L : Int) := by omega
  have hI2 : (6 + 2 * (p : Int) + 2 + (L : Int)).toNat = 6 + 2 * p + 2 + L := by omega
  go_wp2_with fail
  refine Calls.mono (HS.out _) ?_
  rintro e w1 ⟨rfl, k1⟩
  rw [k1]
  clear k1 w1
  go_wp2_with fail
  refine Calls.mono (R3.out _) ?_
  rintro e w1 ⟨rfl, k1⟩
  rw [k1]
  clear k1 w1
  have hq : (w.alloc (.cells #[.int .i64 0, .string ⟨#[]⟩, .string ⟨#[]⟩, .int .i64 0] 82)).rowIs w.heap.size 82 4 (fRow 0 ⟨#[]⟩ ⟨#[]⟩ 0) := fRow_new w
  have hbq : Below w.heap.size w (w.alloc (.cells #[.int .i64 0, .string ⟨#[]⟩, .string ⟨#[]⟩, .int .i64 0] 82)) := (Below.refl _ _).alloc (Nat.le_refl _) _
  cases b
  · simp only [Bool.not_false] at h7'
    go_wp2_with (refine wpList_store_rowIs rfl 82 (.tmp 2) (.tmp 77) rfl w.heap.size rfl 82 4 (fRow 0 ⟨#[]⟩ ⟨#[]⟩ 0) (fRow 0 ⟨#[]⟩ ⟨#[]⟩ 0) hq rfl sizeFile (fun i _ => fRow_one _ _ _ _ i) ?_; intro w5 q5 b5 o5 s5)
    have hr := run_loadVar_rowIs (P := Try.prog) w5 w.heap.size 82 82 4 (fRow 0 ⟨#[]⟩ ⟨#[]⟩ 0) _ q5 Try.underlying82 rfl sizeFile
    refine bodyPost_ret (v := .tuple #[.agg (arrOf 4 (fRow 0 ⟨#[]⟩ ⟨#[]⟩ 0)), .bool false]) ?_ rfl ⟨rfl, ?_⟩
    · simp [results, Try.results58, asAddr, hr]
    · exact hbq.trans b5
  · simp only [Bool.not_true] at h7'
    go_wp2_with (refine wpList_store_rowIs rfl 82 (.tmp 2) (.tmp 85) rfl w.heap.size rfl 82 4 (fRow 0 ⟨#[]⟩ ⟨#[]⟩ 0) (fRow (N2 : Int) (f.extract 6 (6 + 2 * p)) (f.extract (6 + 2 * p + 2) (6 + 2 * p + 2 + L)) (S : Int)) hq rfl sizeFile (fun i _ => fRow_one _ _ _ _ i) ?_; intro w5 q5 b5 o5 s5)
    have hr := run_loadVar_rowIs (P := Try.prog) w5 w.heap.size 82 82 4 _ _ q5 Try.underlying82 rfl sizeFile
    refine bodyPost_ret (v := .tuple #[.agg (arrOf 4 (fRow (N2 : Int) (f.extract 6 (6 + 2 * p)) (f.extract (6 + 2 * p + 2) (6 + 2 * p + 2 + L)) (S : Int))), .bool true]) ?_ rfl ⟨rfl, ?_⟩
    · simp [results, Try.results58, asAddr, hr]
    · exact hbq.trans b5
set_option maxRecDepth 100000 in
set_option maxHeartbeats 1600000 in
theorem read_short (f : ByteArray) (w : World) (hf : f.size < 6) :
    Calls Try.prog 58 #[.string f] w fun e w' => e = .returned (.tuple #[fileV 0 ⟨#[]⟩ ⟨#[]⟩ 0, .bool false]) ∧ Below w.heap.size w w' := by
  have d0 : (f.size : Int) < 6 := by omega
  go_enter Try.func58, Try.ntmps58
  have hq : (w.alloc (.cells #[.int .i64 0, .string ⟨#[]⟩, .string ⟨#[]⟩, .int .i64 0] 82)).rowIs w.heap.size 82 4 (fRow 0 ⟨#[]⟩ ⟨#[]⟩ 0) := fRow_new w
  have hbq : Below w.heap.size w (w.alloc (.cells #[.int .i64 0, .string ⟨#[]⟩, .string ⟨#[]⟩, .int .i64 0] 82)) := (Below.refl _ _).alloc (Nat.le_refl _) _
  go_wp2_with (refine wpList_store_rowIs rfl 82 (.tmp 2) (.tmp 20) rfl w.heap.size rfl 82 4 (fRow 0 ⟨#[]⟩ ⟨#[]⟩ 0) (fRow 0 ⟨#[]⟩ ⟨#[]⟩ 0) hq rfl sizeFile (fun i _ => fRow_one _ _ _ _ i) ?_; intro w5 q5 b5 o5 s5)
  have hr := run_loadVar_rowIs (P := Try.prog) w5 w.heap.size 82 82 4 (fRow 0 ⟨#[]⟩ ⟨#[]⟩ 0) _ q5 Try.underlying82 rfl sizeFile
  refine bodyPost_ret (v := .tuple #[.agg (arrOf 4 (fRow 0 ⟨#[]⟩ ⟨#[]⟩ 0)), .bool false]) ?_ rfl ⟨rfl, ?_⟩
  · simp [results, Try.results58, asAddr, hr]
  · exact hbq.trans b5

set_option maxRecDepth 100000 in
set_option maxHeartbeats 1600000 in
theorem read_mark (f : ByteArray) (w : World) (hf : f.size ≤ maxLen) (h6 : 6 ≤ f.size) (h2 : f.extract 0 3 ≠ mk3) :
    Calls Try.prog 58 #[.string f] w fun e w' => e = .returned (.tuple #[fileV 0 ⟨#[]⟩ ⟨#[]⟩ 0, .bool false]) ∧ Below w.heap.size w w' := by
  unfold maxLen at hf
  have d0 : decide ((f.size : Int) < 6) = false := by simp; omega
  have hm : ((f.extract 0 3).toList == [71, 68, 1]) = false := by rw [mk3_beq]; simp [h2]
  clear h2
  go_enter Try.func58, Try.ntmps58
  have hq : (w.alloc (.cells #[.int .i64 0, .string ⟨#[]⟩, .string ⟨#[]⟩, .int .i64 0] 82)).rowIs w.heap.size 82 4 (fRow 0 ⟨#[]⟩ ⟨#[]⟩ 0) := fRow_new w
  have hbq : Below w.heap.size w (w.alloc (.cells #[.int .i64 0, .string ⟨#[]⟩, .string ⟨#[]⟩, .int .i64 0] 82)) := (Below.refl _ _).alloc (Nat.le_refl _) _
  go_wp2_with (refine wpList_store_rowIs rfl 82 (.tmp 2) (.tmp 20) rfl w.heap.size rfl 82 4 (fRow 0 ⟨#[]⟩ ⟨#[]⟩ 0) (fRow 0 ⟨#[]⟩ ⟨#[]⟩ 0) hq rfl sizeFile (fun i _ => fRow_one _ _ _ _ i) ?_; intro w5 q5 b5 o5 s5)
  have hr := run_loadVar_rowIs (P := Try.prog) w5 w.heap.size 82 82 4 (fRow 0 ⟨#[]⟩ ⟨#[]⟩ 0) _ q5 Try.underlying82 rfl sizeFile
  refine bodyPost_ret (v := .tuple #[.agg (arrOf 4 (fRow 0 ⟨#[]⟩ ⟨#[]⟩ 0)), .bool false]) ?_ rfl ⟨rfl, ?_⟩
  · simp [results, Try.results58, asAddr, hr]
  · exact hbq.trans b5

set_option maxRecDepth 100000 in
set_option maxHeartbeats 1600000 in
theorem read_cut (f : ByteArray) (p : Nat) (w : World) (hf : f.size ≤ maxLen) (h6 : 6 ≤ f.size) (hp : btn f 5 = p) (h2 : f.extract 0 3 = mk3) (h1 : f.size < 6 + 2 * p + 2) :
    Calls Try.prog 58 #[.string f] w fun e w' => e = .returned (.tuple #[fileV 0 ⟨#[]⟩ ⟨#[]⟩ 0, .bool false]) ∧ Below w.heap.size w w' := by
  unfold maxLen at hf
  have hb := get_btn f
  have hp1 := btn_lt f 5
  have R1 := hid (fun w => rnumE f 3 5 w (by omega) (by omega) (by omega))
  have d0 : decide ((f.size : Int) < 6) = false := by simp; omega
  have hm : ((f.extract 0 3).toList == [71, 68, 1]) = true := by rw [mk3_beq, h2]; simp
  rw [hp] at hp1
  have hb5 : ∀ (h : 5 < f.size), ((f[5]'h).toNat : Int) = (p : Int) := fun h => by rw [hb 5 h, hp]
  clear hb h2 hp
  have d4 : (f.size : Int) < 6 + 2 * (p : Int) + 2 := by omega
  go_enter Try.func58, Try.ntmps58
  go_wp2_with fail
  refine Calls.mono (R1.out _) ?_
  rintro e w1 ⟨rfl, k1⟩
  rw [k1]
  clear k1 w1
  have hq : (w.alloc (.cells #[.int .i64 0, .string ⟨#[]⟩, .string ⟨#[]⟩, .int .i64 0] 82)).rowIs w.heap.size 82 4 (fRow 0 ⟨#[]⟩ ⟨#[]⟩ 0) := fRow_new w
  have hbq : Below w.heap.size w (w.alloc (.cells #[.int .i64 0, .string ⟨#[]⟩, .string ⟨#[]⟩, .int .i64 0] 82)) := (Below.refl _ _).alloc (Nat.le_refl _) _
  go_wp2_with (refine wpList_store_rowIs rfl 82 (.tmp 2) (.tmp 36) rfl w.heap.size rfl 82 4 (fRow 0 ⟨#[]⟩ ⟨#[]⟩ 0) (fRow 0 ⟨#[]⟩ ⟨#[]⟩ 0) hq rfl sizeFile (fun i _ => fRow_one _ _ _ _ i) ?_; intro w5 q5 b5 o5 s5)
  have hr := run_loadVar_rowIs (P := Try.prog) w5 w.heap.size 82 82 4 (fRow 0 ⟨#[]⟩ ⟨#[]⟩ 0) _ q5 Try.underlying82 rfl sizeFile
  refine bodyPost_ret (v := .tuple #[.agg (arrOf 4 (fRow 0 ⟨#[]⟩ ⟨#[]⟩ 0)), .bool false]) ?_ rfl ⟨rfl, ?_⟩
  · simp [results, Try.results58, asAddr, hr]
  · exact hbq.trans b5

set_option maxRecDepth 100000 in
set_option maxHeartbeats 1600000 in
theorem read_bad (f : ByteArray) (p L : Nat) (w : World) (hf : f.size ≤ maxLen) (hp : btn f 5 = p) (h2 : f.extract 0 3 = mk3) (h1 : 6 + 2 * p + 2 ≤ f.size) (hL : num f (6 + 2 * p) 2 = L)
    (h3 : ¬ (isTB (f.extract 6 (6 + 2 * p)) = true ∧ 1 ≤ L ∧ L ≤ 500 ∧ f.size = 6 + 2 * p + 2 + L + 4)) :
    Calls Try.prog 58 #[.string f] w fun e w' => e = .returned (.tuple #[fileV 0 ⟨#[]⟩ ⟨#[]⟩ 0, .bool false]) ∧ Below w.heap.size w w' := by
  have hLlt := num_lt f (6 + 2 * p) 2
  rw [hL] at hLlt
  unfold maxLen at hf
  have hb := get_btn f
  have hp1 := btn_lt f 5
  have R1 := hid (fun w => rnumE f 3 5 w (by omega) (by omega) (by omega))
  have d0 : decide ((f.size : Int) < 6) = false := by simp; omega
  have hm : ((f.extract 0 3).toList == [71, 68, 1]) = true := by rw [mk3_beq, h2]; simp
  rw [hp] at hp1
  have hb5 : ∀ (h : 5 < f.size), ((f[5]'h).toNat : Int) = (p : Int) := fun h => by rw [hb 5 h, hp]
  clear hb h2 hp
  have R2 := hid (fun w => rnumE f (6 + 2 * p) (6 + 2 * p + 2) w (by omega) (by omega) (by omega))
  have HT := hid (fun w => isTable_any (f.extract 6 (6 + 2 * p)) w (by rw [ext_size _ _ _ (by omega)]; unfold maxLen; omega))
  rw [show 6 + 2 * p + 2 - (6 + 2 * p) = 2 from by omega, hL] at R2
  clear hL
  have d4 : decide ((f.size : Int) < 6 + 2 * (p : Int) + 2) = false := by simp; omega
  cases hT : isTB (f.extract 6 (6 + 2 * p))
  · rw [hT] at HT
    clear h3 hT
    go_enter Try.func58, Try.ntmps58
    go_wp2_with fail
    refine Calls.mono (R1.out _) ?_
    rintro e w1 ⟨rfl, k1⟩
    rw [k1]
    clear k1 w1
    go_wp2_with fail
    refine Calls.mono (R2.out _) ?_
    rintro e w1 ⟨rfl, k1⟩
    rw [k1]
    clear k1 w1
    go_wp2_with fail
    refine Calls.mono (HT.out _) ?_
    rintro e w1 ⟨rfl, k1⟩
    rw [k1]
    clear k1 w1
    have hq : (w.alloc (.cells #[.int .i64 0, .string ⟨#[]⟩, .string ⟨#[]⟩, .int .i64 0] 82)).rowIs w.heap.size 82 4 (fRow 0 ⟨#[]⟩ ⟨#[]⟩ 0) := fRow_new w
    have hbq : Below w.heap.size w (w.alloc (.cells #[.int .i64 0, .string ⟨#[]⟩, .string ⟨#[]⟩, .int .i64 0] 82)) := (Below.refl _ _).alloc (Nat.le_refl _) _
    go_wp2_with (refine wpList_store_rowIs rfl 82 (.tmp 2) (.tmp 66) rfl w.heap.size rfl 82 4 (fRow 0 ⟨#[]⟩ ⟨#[]⟩ 0) (fRow 0 ⟨#[]⟩ ⟨#[]⟩ 0) hq rfl sizeFile (fun i _ => fRow_one _ _ _ _ i) ?_; intro w5 q5 b5 o5 s5)
    have hr := run_loadVar_rowIs (P := Try.prog) w5 w.heap.size 82 82 4 (fRow 0 ⟨#[]⟩ ⟨#[]⟩ 0) _ q5 Try.underlying82 rfl sizeFile
    refine bodyPost_ret (v := .tuple #[.agg (arrOf 4 (fRow 0 ⟨#[]⟩ ⟨#[]⟩ 0)), .bool false]) ?_ rfl ⟨rfl, ?_⟩
    · simp [results, Try.results58, asAddr, hr]
    · exact hbq.trans b5
  · rw [hT] at HT
    rw [hT] at h3
    by_cases c1 : L < 1
    · have c1' : (L : Int) < 1 := by omega
      clear h3 hT
      go_enter Try.func58, Try.ntmps58
      go_wp2_with fail
      refine Calls.mono (R1.out _) ?_
      rintro e w1 ⟨rfl, k1⟩
      rw [k1]
      clear k1 w1
      go_wp2_with fail
      refine Calls.mono (R2.out _) ?_
      rintro e w1 ⟨rfl, k1⟩
      rw [k1]
      clear k1 w1
      go_wp2_with fail
      refine Calls.mono (HT.out _) ?_
      rintro e w1 ⟨rfl, k1⟩
      rw [k1]
      clear k1 w1
      have hq : (w.alloc (.cells #[.int .i64 0, .string ⟨#[]⟩, .string ⟨#[]⟩, .int .i64 0] 82)).rowIs w.heap.size 82 4 (fRow 0 ⟨#[]⟩ ⟨#[]⟩ 0) := fRow_new w
      have hbq : Below w.heap.size w (w.alloc (.cells #[.int .i64 0, .string ⟨#[]⟩, .string ⟨#[]⟩, .int .i64 0] 82)) := (Below.refl _ _).alloc (Nat.le_refl _) _
      go_wp2_with (refine wpList_store_rowIs rfl 82 (.tmp 2) (.tmp 66) rfl w.heap.size rfl 82 4 (fRow 0 ⟨#[]⟩ ⟨#[]⟩ 0) (fRow 0 ⟨#[]⟩ ⟨#[]⟩ 0) hq rfl sizeFile (fun i _ => fRow_one _ _ _ _ i) ?_; intro w5 q5 b5 o5 s5)
      have hr := run_loadVar_rowIs (P := Try.prog) w5 w.heap.size 82 82 4 (fRow 0 ⟨#[]⟩ ⟨#[]⟩ 0) _ q5 Try.underlying82 rfl sizeFile
      refine bodyPost_ret (v := .tuple #[.agg (arrOf 4 (fRow 0 ⟨#[]⟩ ⟨#[]⟩ 0)), .bool false]) ?_ rfl ⟨rfl, ?_⟩
      · simp [results, Try.results58, asAddr, hr]
      · exact hbq.trans b5
    · have c1' : decide ((L : Int) < 1) = false := by simp; omega
      by_cases c2 : 500 < L
      · have c2' : (500 : Int) < (L : Int) := by omega
        clear h3 hT
        go_enter Try.func58, Try.ntmps58
        go_wp2_with fail
        refine Calls.mono (R1.out _) ?_
        rintro e w1 ⟨rfl, k1⟩
        rw [k1]
        clear k1 w1
        go_wp2_with fail
        refine Calls.mono (R2.out _) ?_
        rintro e w1 ⟨rfl, k1⟩
        rw [k1]
        clear k1 w1
        go_wp2_with fail
        refine Calls.mono (HT.out _) ?_
        rintro e w1 ⟨rfl, k1⟩
        rw [k1]
        clear k1 w1
        have hq : (w.alloc (.cells #[.int .i64 0, .string ⟨#[]⟩, .string ⟨#[]⟩, .int .i64 0] 82)).rowIs w.heap.size 82 4 (fRow 0 ⟨#[]⟩ ⟨#[]⟩ 0) := fRow_new w
        have hbq : Below w.heap.size w (w.alloc (.cells #[.int .i64 0, .string ⟨#[]⟩, .string ⟨#[]⟩, .int .i64 0] 82)) := (Below.refl _ _).alloc (Nat.le_refl _) _
        go_wp2_with (refine wpList_store_rowIs rfl 82 (.tmp 2) (.tmp 66) rfl w.heap.size rfl 82 4 (fRow 0 ⟨#[]⟩ ⟨#[]⟩ 0) (fRow 0 ⟨#[]⟩ ⟨#[]⟩ 0) hq rfl sizeFile (fun i _ => fRow_one _ _ _ _ i) ?_; intro w5 q5 b5 o5 s5)
        have hr := run_loadVar_rowIs (P := Try.prog) w5 w.heap.size 82 82 4 (fRow 0 ⟨#[]⟩ ⟨#[]⟩ 0) _ q5 Try.underlying82 rfl sizeFile
        refine bodyPost_ret (v := .tuple #[.agg (arrOf 4 (fRow 0 ⟨#[]⟩ ⟨#[]⟩ 0)), .bool false]) ?_ rfl ⟨rfl, ?_⟩
        · simp [results, Try.results58, asAddr, hr]
        · exact hbq.trans b5
      · have c2' : decide ((500 : Int) < (L : Int)) = false := by simp; omega
        have c3 : ((f.size : Int) != 6 + 2 * (p : Int) + 2 + (L : Int) + 4) = true := by
          simp only [bne_iff_ne, ne_eq]
          intro e
          exact h3 ⟨rfl, by omega, by omega, by omega⟩
        clear h3 hT
        go_enter Try.func58, Try.ntmps58
        go_wp2_with fail
        refine Calls.mono (R1.out _) ?_
        rintro e w1 ⟨rfl, k1⟩
        rw [k1]
        clear k1 w1
        go_wp2_with fail
        refine Calls.mono (R2.out _) ?_
        rintro e w1 ⟨rfl, k1⟩
        rw [k1]
        clear k1 w1
        go_wp2_with fail
        refine Calls.mono (HT.out _) ?_
        rintro e w1 ⟨rfl, k1⟩
        rw [k1]
        clear k1 w1
        have hq : (w.alloc (.cells #[.int .i64 0, .string ⟨#[]⟩, .string ⟨#[]⟩, .int .i64 0] 82)).rowIs w.heap.size 82 4 (fRow 0 ⟨#[]⟩ ⟨#[]⟩ 0) := fRow_new w
        have hbq : Below w.heap.size w (w.alloc (.cells #[.int .i64 0, .string ⟨#[]⟩, .string ⟨#[]⟩, .int .i64 0] 82)) := (Below.refl _ _).alloc (Nat.le_refl _) _
        go_wp2_with (refine wpList_store_rowIs rfl 82 (.tmp 2) (.tmp 66) rfl w.heap.size rfl 82 4 (fRow 0 ⟨#[]⟩ ⟨#[]⟩ 0) (fRow 0 ⟨#[]⟩ ⟨#[]⟩ 0) hq rfl sizeFile (fun i _ => fRow_one _ _ _ _ i) ?_; intro w5 q5 b5 o5 s5)
        have hr := run_loadVar_rowIs (P := Try.prog) w5 w.heap.size 82 82 4 (fRow 0 ⟨#[]⟩ ⟨#[]⟩ 0) _ q5 Try.underlying82 rfl sizeFile
        refine bodyPost_ret (v := .tuple #[.agg (arrOf 4 (fRow 0 ⟨#[]⟩ ⟨#[]⟩ 0)), .bool false]) ?_ rfl ⟨rfl, ?_⟩
        · simp [results, Try.results58, asAddr, hr]
        · exact hbq.trans b5

/-- The sum of a file; 0, if it is none. -/
def fSum (f : ByteArray) : Int := if pOkB f = true then (wSum (f.extract 0 (pE f)) : Nat) else 0
theorem fSum_yes {f : ByteArray} (h : pOk f) : fSum f = (wSum (f.extract 0 (pE f)) : Nat) := by unfold fSum; rw [if_pos ((pOkB_iff f).2 h)]
theorem fSum_no {f : ByteArray} (h : ¬ pOk f) : fSum f = 0 := by unfold fSum; rw [if_neg (fun q => h ((pOkB_iff f).1 q))]
/-- Read, by what a file is. -/
theorem fileRead_any (f : ByteArray) (w : World) (hf : f.size ≤ maxLen) :
    Calls Try.prog 58 #[.string f] w fun e w' => e = .returned (.tuple #[fileV (pAns f).1 (pAns f).2.1 (pAns f).2.2.1 (fSum f), .bool (decide ((pAns f).2.2.2 = 0))]) ∧ Below w.heap.size w w' := by
  have hT : pT f = 6 + 2 * btn f 5 := rfl
  have hE : pE f = pT f + 2 + pL f := rfl
  by_cases h : pOk f
  · rw [pAns_yes h, fSum_yes h]
    obtain ⟨h1, h2, h3, h4, h5, h6, h7⟩ := h
    have r := read_yes f (btn f 5) (pL f) w hf rfl rfl (by omega) h2 h3 h4 h5 true (by rw [beq_iff_eq]; exact h7)
    exact r
  · rw [pAns_no h, fSum_no h]
    show Calls Try.prog 58 #[.string f] w fun e w' => e = .returned (.tuple #[fileV 0 ⟨#[]⟩ ⟨#[]⟩ 0, .bool false]) ∧ Below w.heap.size w w'
    by_cases c0 : f.size < 6
    · exact read_short f w c0
    · by_cases c1 : f.extract 0 3 = mk3
      · by_cases c2 : f.size < 6 + 2 * btn f 5 + 2
        · exact read_cut f (btn f 5) w hf (by omega) rfl c1 c2
        · by_cases c3 : isTB (f.extract 6 (6 + 2 * btn f 5)) = true ∧ 1 ≤ pL f ∧ pL f ≤ 500 ∧ f.size = 6 + 2 * btn f 5 + 2 + pL f + 4
          · obtain ⟨a1, a2, a3, a4⟩ := c3
            have hne : ¬ num f (pE f) 4 = wSum (f.extract 0 (pE f)) := fun h7 => h ⟨by omega, c1, a1, a2, a3, by omega, h7⟩
            exact read_yes f (btn f 5) (pL f) w hf rfl rfl (by omega) c1 a1 a2 a3 false (by rw [beq_eq_false_iff_ne]; exact hne)
          · exact read_bad f (btn f 5) (pL f) w hf rfl c1 (by omega) rfl c3
      · exact read_mark f w hf (by omega) c1
end Go.Proofs.Ytaofgdgfmdieeaa

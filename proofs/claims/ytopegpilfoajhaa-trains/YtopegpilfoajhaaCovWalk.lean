/-
  P7: the walks of the program's pieces: previousPlace, lastBytes, score, best, take.
-/
import Derived.Test.YtopegpilfoajhaaFileParse
import Derived.Test.YtopegpilfoajhaaPlainF
import Derived.OneCell
namespace Go.Proofs.Ytopegpilfoajhaa
open Go.RowKit Go.PlainAid

theorem Try.infoBool : (Try.prog.info? 4).map (fun i => (i.zero, i.size, i.bytes)) = some (some (.bool false), 1, 1) := by kernel_rfl
theorem ret_two {a b c d : Int} (h1 : a = b) (h2 : c = d) : Ending.returned (.tuple #[.int .i64 a, .int .i64 c]) = .returned (.tuple #[.int .i64 b, .int .i64 d]) := by rw [h1, h2]
theorem ret_s {a b : ByteArray} (h : a = b) : Ending.returned (.string a) = .returned (.string b) := by rw [h]

set_option maxRecDepth 100000 in
set_option maxHeartbeats 400000 in
theorem prev_any (s : ByteArray) (d a : Nat) (w : World) (hs : s.size ≤ 800) (h : a + d ≤ s.size) :
    Calls Try.prog 83 #[.string s, .int .i64 d, .int .i64 a] w fun e w' => e = .returned (.int .i64 (prv s d a)) ∧ w' = w := by
  go_enter Try.func83, Try.ntmps83
  go_wp2
  go_loop [8] (fun v => ∃ x : Int, v = .int .i64 x ∧ -1 ≤ x ∧ x < a ∧ prv s d a = prvF s d a (x + 1).toNat) (fun v => (intOf v + 1).toNat)
  case atStart => exact ⟨(a : Int) - 1, rfl, by omega, by omega, by rw [show ((a : Int) - 1 + 1).toNat = a from by omega]; rfl⟩
  case round =>
    obtain ⟨x, rfl, hx0, hx1, hp⟩ := hrel
    have HP := hid hp
    clear hp
    by_cases hn : x < 0
    · have HX := hid (show x = -1 from by omega)
      have hd : decide (0 ≤ x) = false := by simp; omega
      go_wp2
      go_ret
      exact ⟨ret_int (by rw [HP.out, HX.out]; rfl), rfl⟩
    · obtain ⟨c, rfl⟩ := Int.eq_ofNat_of_zero_le (show 0 ≤ x by omega)
      have hd : decide (0 ≤ (c : Int)) = true := by simp
      have hca : c < a := by omega
      have HS := hid (show prvF s d a ((c : Int) + 1).toNat = if pc s d c = pc s d a then (c : Int) else prvF s d a c from by
        rw [show ((c : Int) + 1).toNat = c + 1 from by omega, prvF])
      rw [HS.out] at HP
      clear HS
      have hbq := text_beq (s.extract c (c + d)) (s.extract a (a + d))
      by_cases hq : pc s d c = pc s d a
      · have hq2 : ((s.extract c (c + d)).toList == (s.extract a (a + d)).toList) = true := by rw [hbq]; simpa [pc] using hq
        rw [if_pos hq] at HP
        clear hq hbq
        go_wp2
        go_ret
        exact ⟨ret_int (by rw [HP.out]), rfl⟩
      · have hq2 : ((s.extract c (c + d)).toList == (s.extract a (a + d)).toList) = false := by rw [hbq]; simpa [pc] using hq
        rw [if_neg hq] at HP
        clear hq hbq
        go_wp2
        go_round
        case rel => exact ⟨(c : Int) - 1, rfl, by omega, by omega, by rw [HP.out]; congr 1; omega⟩
        case measure => first | (simp [intOf]; done) | (simp [intOf]; omega)

set_option maxHeartbeats 400000 in
theorem lastB_any (x : ByteArray) (n : Nat) (w : World) (hx : x.size ≤ 800) (hn : n ≤ 800) :
    Calls Try.prog 78 #[.string x, .int .i64 n] w fun e w' => e = .returned (.string (lastN x n)) ∧ w' = w := by
  have d0 : decide ((n : Int) < 0) = false := by simp
  by_cases h : x.size ≤ n
  · have HE := hid (lastN_all h)
    have h' : decide ((x.size : Int) ≤ (n : Int)) = true := by simp; omega
    go_enter Try.func78, Try.ntmps78
    go_wp2
    go_ret
    exact ⟨ret_s HE.out.symm, rfl⟩
  · have h' : decide ((x.size : Int) ≤ (n : Int)) = false := by simp; omega
    obtain ⟨m, hm⟩ : ∃ m : Nat, (x.size : Int) - (n : Int) = (m : Int) := ⟨x.size - n, by omega⟩
    have HE := hid (show lastN x n = x.extract m x.size from by unfold lastN; congr 1; omega)
    have hm2 : m ≤ x.size := by omega
    go_enter Try.func78, Try.ntmps78
    go_wp2
    go_ret
    exact ⟨ret_s HE.out.symm, rfl⟩

/-! ### The pieces in memory -/
def pRow (vp vf vt vk : Value) (j : Nat) : Value := if j = 0 then vp else if j = 1 then vf else if j = 2 then vt else vk
def rowP (s : ByteArray) (d n : Nat) : List Value := (List.range n).map fun i => Value.int .i64 (prv s d i)
def rowF (s : ByteArray) (d n : Nat) : List Value := (List.range n).map fun i => Value.int .i64 (fs s d i : Int)
def rowT (s : ByteArray) (d m n : Nat) : List Value := (List.range n).map fun i => Value.int .i64 (tmTo s d m i : Int)
def rowK (tk : Nat → Bool) (n : Nat) : List Value := (List.range n).map fun i => Value.bool (tk i)
theorem range_get {α : Type} (f : Nat → α) (n i : Nat) (h : i < n) : ((List.range n).map f)[i]? = some (f i) := by simp [h]
theorem range_app {α : Type} (f : Nat → α) (n : Nat) : (List.range n).map f ++ [f n] = (List.range (n + 1)).map f := by simp [List.range_succ]
theorem range_set {α : Type} {f g : Nat → α} {n k : Nat} {x : α} (h1 : g k = x) (h2 : ∀ i, i ≠ k → g i = f i) : ((List.range n).map f).set k x = (List.range n).map g := by
  apply List.ext_getElem?
  intro i
  rw [List.getElem?_set]
  by_cases hi : i < n
  · by_cases hk : k = i
    · subst hk
      simp [hi, h1]
    · rw [if_neg hk, range_get f n i hi, range_get g n i hi, h2 i (fun e => hk e.symm)]
  · by_cases hk : k = i
    · subst hk
      simp [hi]
    · rw [if_neg hk]
      simp [hi]

structure Pcs (w : World) (b B N : Nat) (s : ByteArray) (d : Nat) (tk : Nat → Bool) (gp cp gf cf gt ct gk ck : Nat) : Prop where
  row : w.rowIs b 99 4 (pRow (.slice (some ⟨gp, 0, none⟩) N cp) (.slice (some ⟨gf, 0, none⟩) N cf) (.slice (some ⟨gt, 0, none⟩) N ct) (.slice (some ⟨gk, 0, none⟩) N ck))
  p : w.ownsRow B 3 1 (.slice (some ⟨gp, 0, none⟩) N cp) N (rowP s d N)
  f : w.ownsRow B 3 1 (.slice (some ⟨gf, 0, none⟩) N cf) N (rowF s d N)
  t : w.ownsRow B 3 1 (.slice (some ⟨gt, 0, none⟩) N ct) N (rowT s d N N)
  k : w.ownsRow B 4 1 (.slice (some ⟨gk, 0, none⟩) N ck) N (rowK tk N)
  kp : gp ≠ gk
  kf : gf ≠ gk
  kt : gt ≠ gk
  kb : b ≠ gk
section
variable {w : World} {b B N : Nat} {s : ByteArray} {d : Nat} {tk : Nat → Bool} {gp cp gf cf gt ct gk ck : Nat}
theorem Pcs.b0 (h : Pcs w b B N s d tk gp cp gf cf gt ct gk ck) : w.cell? ⟨b, 0, none⟩ = some (.slice (some ⟨gp, 0, none⟩) N cp) := World.rowIs.cell h.row (i := 0) (by omega)
theorem Pcs.b1 (h : Pcs w b B N s d tk gp cp gf cf gt ct gk ck) : w.cell? ⟨b, 1, none⟩ = some (.slice (some ⟨gf, 0, none⟩) N cf) := World.rowIs.cell h.row (i := 1) (by omega)
theorem Pcs.b2 (h : Pcs w b B N s d tk gp cp gf cf gt ct gk ck) : w.cell? ⟨b, 2, none⟩ = some (.slice (some ⟨gt, 0, none⟩) N ct) := World.rowIs.cell h.row (i := 2) (by omega)
theorem Pcs.b3 (h : Pcs w b B N s d tk gp cp gf cf gt ct gk ck) : w.cell? ⟨b, 3, none⟩ = some (.slice (some ⟨gk, 0, none⟩) N ck) := World.rowIs.cell h.row (i := 3) (by omega)
theorem Pcs.cellP (h : Pcs w b B N s d tk gp cp gf cf gt ct gk ck) {i : Nat} (hi : i < N) : w.cell? ⟨gp, i, none⟩ = some (.int .i64 (prv s d i)) := by
  rw [World.ownsRow.cellAt h.p i (by omega)]; exact range_get _ _ _ hi
theorem Pcs.cellF (h : Pcs w b B N s d tk gp cp gf cf gt ct gk ck) {i : Nat} (hi : i < N) : w.cell? ⟨gf, i, none⟩ = some (.int .i64 (fs s d i : Int)) := by
  rw [World.ownsRow.cellAt h.f i (by omega)]; exact range_get _ _ _ hi
theorem Pcs.cellT (h : Pcs w b B N s d tk gp cp gf cf gt ct gk ck) {i : Nat} (hi : i < N) : w.cell? ⟨gt, i, none⟩ = some (.int .i64 (tmTo s d N i : Int)) := by
  rw [World.ownsRow.cellAt h.t i (by omega)]; exact range_get _ _ _ hi
theorem Pcs.cellK (h : Pcs w b B N s d tk gp cp gf cf gt ct gk ck) {i : Nat} (hi : i < N) : w.cell? ⟨gk, i, none⟩ = some (.bool (tk i)) := by
  rw [World.ownsRow.cellAt h.k i (by omega)]; exact range_get _ _ _ hi
theorem Pcs.drew (n : Nat) (h : Pcs w b B N s d tk gp cp gf cf gt ct gk ck) : Pcs (w.drewN n) b B N s d tk gp cp gf cf gt ct gk ck := ⟨h.row, h.p, h.f, h.t, h.k, h.kp, h.kf, h.kt, h.kb⟩
theorem Pcs.take (h : Pcs w b B N s d tk gp cp gf cf gt ct gk ck) (i : Nat) (tk' : Nat → Bool) (h1 : tk' i = true) (h2 : ∀ j, j ≠ i → tk' j = tk j) : Pcs (w.setCell ⟨gk, i, none⟩ (.bool true)) b B N s d tk' gp cp gf cf gt ct gk ck := by
  refine ⟨World.rowIs.setOther h.row h.kb _, ownsRow_setCell_other h.p (by simp [Value.ownBlock, h.kp]) _, ownsRow_setCell_other h.f (by simp [Value.ownBlock, h.kf]) _, ownsRow_setCell_other h.t (by simp [Value.ownBlock, h.kt]) _, ?_, h.kp, h.kf, h.kt, h.kb⟩
  have := (World.ownsRow.stored h.k i (.bool true)).1
  have e : (rowK tk N).set i (.bool true) = rowK tk' N := range_set (by rw [h1]) (fun j hj => by rw [h2 j hj])
  rw [e] at this
  exact this
end

set_option maxRecDepth 100000 in
set_option maxHeartbeats 800000 in
theorem score_any (s : ByteArray) (d N : Nat) (tk : Nat → Bool) (b B gp cp gf cf gt ct gk ck i x : Nat) (w : World) (h : Pcs w b B N s d tk gp cp gf cf gt ct gk ck) (hN : N ≤ 800) (hx : i + x ≤ N) :
    Calls Try.prog 84 #[.pointer (some ⟨b, 0, none⟩), .int .i64 i, .int .i64 x] w fun e w' => e = .returned (.int .i64 (scTo s d N tk i x : Int)) ∧ w' = w := by
  have b0 := h.b0
  have b1 := h.b1
  have b2 := h.b2
  have b3 := h.b3
  go_enter Try.func84, Try.ntmps84
  go_wp2
  go_loop [7, 8, 9] (fun n at' _ => ∃ y a : Nat, y ≤ x ∧ i + y = a ∧ at' = .int .i64 a ∧ n = .int .i64 (scTo s d N tk i y : Int)) (fun _ at' _ => i + x - (intOf at').toNat)
  case atStart => exact ⟨0, i, Nat.zero_le _, rfl, rfl, rfl⟩
  case round =>
    obtain ⟨y, a, hy, hya, rfl, rfl⟩ := hrel
    have hsc := scTo_le s d N tk i y
    have hyN : y * N ≤ 800 * 800 := Nat.mul_le_mul (by omega) (by omega)
    have HYA := hid hya
    by_cases hlt : y < x
    · have haN : a < N := by omega
      have hfs := (fs_spec s d a).1
      have hpv := prv_spec s d a
      have cP := h.cellP haN
      have cF := h.cellF haN
      have cT := h.cellT (i := fs s d a) (by omega)
      have cK := h.cellK (i := fs s d a) (by omega)
      have hfN : fs s d a < N := by omega
      have hp0 := hpv.1
      have hp1 := hpv.2.1
      have htm := tmTo_le s d N (fs s d a)
      have HS := hid (show scTo s d N tk i (y + 1) = scTo s d N tk i y + if prv s d a < (i : Int) then hw s d N tk (fs s d a) else 0 from by rw [scTo, hya])
      have HW := hid (show hw s d N tk (fs s d a) = if tk (fs s d a) then 0 else tmTo s d N (fs s d a) from rfl)
      have haX : (a : Int) < (i : Int) + (x : Int) := by omega
      clear hpv hya
      generalize scTo s d N tk i y = n0 at *
      generalize tmTo s d N (fs s d a) = T at *
      generalize hw s d N tk (fs s d a) = W at *
      generalize hF : fs s d a = F at *
      clear hF
      generalize prv s d a = P at *
      by_cases c1 : P < (i : Int)
      · have c1' : decide (P < (i : Int)) = true := by simp; omega
        rw [if_pos c1] at HS
        cases hk : tk F
        · rw [hk] at HW cK
          rw [if_neg (by simp)] at HW
          clear hk
          go_wp2
          go_round
          case rel => exact ⟨y + 1, a + 1, by omega, by have := HYA.out; omega, by go_num, by rw [HS.out, HW.out]; go_num⟩
          case measure => simp [intOf]; omega
        · rw [hk] at HW cK
          rw [if_pos rfl] at HW
          clear hk
          go_wp2
          go_round
          case rel => exact ⟨y + 1, a + 1, by omega, by have := HYA.out; omega, by go_num, by rw [HS.out, HW.out]; go_num⟩
          case measure => simp [intOf]; omega
      · have c1' : decide (P < (i : Int)) = false := by simp; omega
        rw [if_neg c1] at HS
        go_wp2
        go_round
        case rel => exact ⟨y + 1, a + 1, by omega, by have := HYA.out; omega, by go_num, by rw [HS.out]; go_num⟩
        case measure => simp [intOf]; omega
    · have HY := hid (show y = x from by omega)
      have haX : decide ((a : Int) < (i : Int) + (x : Int)) = false := by simp; omega
      clear hya
      go_wp2
      go_ret
      exact ⟨ret_int (by rw [HY.out]), rfl⟩

set_option maxRecDepth 100000 in
set_option maxHeartbeats 800000 in
theorem best_any (s : ByteArray) (d N : Nat) (tk : Nat → Bool) (b B gp cp gf cf gt ct gk ck x : Nat) (w : World) (h : Pcs w b B N s d tk gp cp gf cf gt ct gk ck) (hN : N ≤ 800) (hx : x ≤ N) :
    Calls Try.prog 76 #[.pointer (some ⟨b, 0, none⟩), .int .i64 x] w fun e w' => e = .returned (.tuple #[.int .i64 ((bsTo s d N tk x (N - x + 1)).1 : Int), .int .i64 ((bsTo s d N tk x (N - x + 1)).2 : Int)]) ∧ w' = w := by
  have b1 := h.b1
  have HC := hid (fun i (hi : i + x ≤ N) => score_any s d N tk b B gp cp gf cf gt ct gk ck i x w h hN hi)
  have HLE := hid (fun n => bsTo_le s d N tk x n)
  have HSL := hid (fun i => scTo_le s d N tk i x)
  have hxN : x * N ≤ 800 * 800 := Nat.mul_le_mul (by omega) (by omega)
  have HSTEP := hid (fun n => show bsTo s d N tk x (n + 1) = if (bsTo s d N tk x n).2 < scTo s d N tk n x then (n, scTo s d N tk n x) else bsTo s d N tk x n from rfl)
  have HB1 := hid (fun n (hn : 0 < n) => bsTo_lt s d N tk x n hn)
  have H0 := hid (show bsTo s d N tk x 0 = (0, 0) from rfl)
  generalize bsTo s d N tk x = F at *
  generalize hSC : (fun i => scTo s d N tk i x) = G at *
  have HG := hid (fun i => congrFun hSC i)
  clear hSC
  go_enter Try.func76, Try.ntmps76
  go_wp2
  go_loop [6, 7, 8, 9] (fun q m i _ => ∃ k : Nat, k ≤ N - x + 1 ∧ i = .int .i64 k ∧ q = .int .i64 ((F k).1 : Int) ∧ m = .int .i64 ((F k).2 : Int)) (fun _ _ i _ => N - x + 1 - (intOf i).toNat)
  case atStart => exact ⟨0, Nat.zero_le _, rfl, by rw [H0.out]; rfl, by rw [H0.out]; rfl⟩
  case round =>
    obtain ⟨k, hk, rfl, rfl, rfl⟩ := hrel
    have hm := HLE.out k
    by_cases hlt : k + x ≤ N
    · have hcall := hid (HC.out k hlt)
      have hs := HSL.out k
      have HST := hid (HSTEP.out k)
      have hd : (k : Int) ≤ (N : Int) - (x : Int) := by omega
      generalize scTo s d N tk k x = n at *
      generalize F k = fk at *
      obtain ⟨q, m⟩ := fk
      simp only at hm HST ⊢
      by_cases c : m < n
      · rw [if_pos c] at HST
        have c' : (m : Int) < (n : Int) := by omega
        go_wp2_with (go_at_call 84; refine Calls.mono hcall.out ?_; rintro e w' ⟨rfl, rfl⟩)
        go_round
        case rel => exact ⟨k + 1, by omega, by go_num, by rw [HST.out], by rw [HST.out]⟩
        case measure => simp [intOf]; omega
      · rw [if_neg c] at HST
        have c' : ¬ (m : Int) < (n : Int) := by omega
        go_wp2_with (go_at_call 84; refine Calls.mono hcall.out ?_; rintro e w' ⟨rfl, rfl⟩)
        go_round
        case rel => exact ⟨k + 1, by omega, by go_num, by rw [HST.out], by rw [HST.out]⟩
        case measure => simp [intOf]; omega
    · have HK := hid (show k = N - x + 1 from by omega)
      have hd : decide ((k : Int) ≤ (N : Int) - (x : Int)) = false := by simp; omega
      go_wp2
      go_ret2
      exact ⟨ret_two (by rw [HK.out]) (by rw [HK.out]), rfl⟩

set_option maxRecDepth 100000 in
set_option maxHeartbeats 800000 in
theorem take_any (s : ByteArray) (d N : Nat) (tk : Nat → Bool) (b B gp cp gf cf gt ct gk ck i x : Nat) (w : World) (h : Pcs w b B N s d tk gp cp gf cf gt ct gk ck) (hN : N ≤ 800) (hx : i + x ≤ N) :
    Calls Try.prog 77 #[.pointer (some ⟨b, 0, none⟩), .int .i64 i, .int .i64 x] w fun e w' => e = .returned (.tuple #[]) ∧ Pcs w' b B N s d (tkTo s d tk i x) gp cp gf cf gt ct gk ck ∧ Below B w w' := by
  have hgk : B ≤ gk := own_base h.k gk rfl
  go_enter Try.func77, Try.ntmps77
  go_wp2
  go_loopw [6] (fun at' wr => ∃ y a : Nat, y ≤ x ∧ i + y = a ∧ at' = .int .i64 a ∧ Pcs wr b B N s d (tkTo s d tk i y) gp cp gf cf gt ct gk ck ∧ Below B w wr) (fun at' _ => i + x - (intOf at').toNat)
  case atStart => exact ⟨0, i, Nat.zero_le _, rfl, rfl, h, Below.refl _ _⟩
  case round =>
    obtain ⟨y, a, hy, hya, rfl, hP, hbel⟩ := hrel
    have HYA := hid hya
    have b1 := hP.b1
    have b3 := hP.b3
    by_cases hlt : y < x
    · have haN : a < N := by omega
      have hfs := (fs_spec s d a).1
      have cF := hP.cellF haN
      have hfN : fs s d a < N := by omega
      have cK := hP.cellK hfN
      have fK := World.ownsRow.frozenAt hP.k (fs s d a)
      have HT := hid (hP.take (fs s d a) (tkTo s d tk i (y + 1)) (by rw [tkTo, if_pos (by rw [hya])]) (fun j hj => by rw [tkTo, if_neg (by rw [hya]; exact fun e => hj e.symm)]))
      have HB := hid (hbel.setCell (p := ⟨gk, fs s d a, none⟩) hgk (.bool true))
      have haX : (a : Int) < (i : Int) + (x : Int) := by omega
      have haNi : (a : Int) < (N : Int) := by omega
      have hfNi : (fs s d a : Int) < (N : Int) := by omega
      clear hya
      generalize fs s d a = F at *
      go_wp2_with fail
      go_region
      all_goals
        go_wp2
        go_roundw
        case rel => exact ⟨y + 1, a + 1, by omega, by have := HYA.out; omega, by go_num, HT.out.drew _, Below.drewN HB.out _⟩
        case measure => simp [intOf]; omega
    · have HY := hid (show y = x from by omega)
      have haX : decide ((a : Int) < (i : Int) + (x : Int)) = false := by simp; omega
      clear hya
      go_wp2
      go_end0
      rw [← HY.out]
      exact ⟨rfl, hP, hbel⟩
end Go.Proofs.Ytopegpilfoajhaa

/-
  P7: the walks of the program's pieces: previousPlace, lastBytes, score, best, take.
  P7: the walk of find.
  P7: the walks of Make, coverErrno, Cover.
  P7: the walks of coverErrno and Cover.
-/
import Derived.Test.YtnconbpneimjiaaFileParse
import Derived.Test.YtnconbpneimjiaaPlainF
import Derived.OneCell
import Derived.Test.YtnconbpneimjiaaTabRefTable
import Derived.Maps.AppendAt
/-! ###  P7: the walks of the program's pieces: previousPlace, lastBytes, score, best, take. -/
namespace Go.Proofs.Ytnconbpneimjiaa
open Go.RowKit Go.PlainAid

theorem Try.infoBool : (Try.prog.info? 4).map (fun i => (i.zero, i.size, i.bytes)) = some (some (.bool false), 1, 1) := by kernel_rfl
theorem ret_two {a b c d : Int} (h1 : a = b) (h2 : c = d) : Ending.returned (.tuple #[.int .i64 a, .int .i64 c]) = .returned (.tuple #[.int .i64 b, .int .i64 d]) := by rw [h1, h2]
theorem ret_s {a b : ByteArray} (h : a = b) : Ending.returned (.string a) = .returned (.string b) := by rw [h]

set_option maxRecDepth 100000 in
set_option maxHeartbeats 400000 in
theorem prev_any (s : ByteArray) (d a : Nat) (w : World) (hs : s.size ≤ 800) (h : a + d ≤ s.size) :
    Calls Try.prog 58 #[.string s, .int .i64 d, .int .i64 a] w fun e w' => e = .returned (.int .i64 (prv s d a)) ∧ w' = w := by
  go_enter Try.func58, Try.ntmps58
  go_wp2
  go_loop [8] (fun v => ∃ x : Int, v = .int .i64 x ∧ -1 ≤ x ∧ x < a ∧ prv s d a = prvF s d a (x + 1).toNat) (fun v => (intOf v + 1).toNat)
  case atStart => exact ⟨(a : Int) - 1, rfl, by omega, by omega, by rw [show ((a : Int) - 1 + 1).toNat = a from by omega]; rfl⟩
  case round =>
    obtain ⟨x, rfl, hx0, hx1, hp⟩ := hrel
    have HP := hid hp
    clear hp
    by_cases hn : x < 0
    · have HX := hid (show x = -1 from by omega)
      have hd : decide (0 ≤ x) = false := by simp; omega
      go_wp2
      go_ret
      exact ⟨ret_int (by rw [HP.out, HX.out]; rfl), rfl⟩
    · obtain ⟨c, rfl⟩ := Int.eq_ofNat_of_zero_le (show 0 ≤ x by omega)
      have hd : decide (0 ≤ (c : Int)) = true := by simp
      have hca : c < a := by omega
      have HS := hid (show prvF s d a ((c : Int) + 1).toNat = if pc s d c = pc s d a then (c : Int) else prvF s d a c from by
        rw [show ((c : Int) + 1).toNat = c + 1 from by omega, prvF])
      rw [HS.out] at HP
      clear HS
      have hbq := text_beq (s.extract c (c + d)) (s.extract a (a + d))
      by_cases hq : pc s d c = pc s d a
      · have hq2 : ((s.extract c (c + d)).toList == (s.extract a (a + d)).toList) = true := by rw [hbq]; simpa [pc] using hq
        rw [if_pos hq] at HP
        clear hq hbq
        go_wp2
        go_ret
        exact ⟨ret_int (by rw [HP.out]), rfl⟩
      · have hq2 : ((s.extract c (c + d)).toList == (s.extract a (a + d)).toList) = false := by rw [hbq]; simpa [pc] using hq
        rw [if_neg hq] at HP
        clear hq hbq
        go_wp2
        go_round
        case rel => exact ⟨(c : Int) - 1, rfl, by omega, by omega, by rw [HP.out]; congr 1; omega⟩
        case measure => first | (simp [intOf]; done) | (simp [intOf]; omega)

set_option maxHeartbeats 400000 in
theorem lastB_any (x : ByteArray) (n : Nat) (w : World) (hx : x.size ≤ 800) (hn : n ≤ 800) :
    Calls Try.prog 50 #[.string x, .int .i64 n] w fun e w' => e = .returned (.string (lastN x n)) ∧ w' = w := by
  have d0 : decide ((n : Int) < 0) = false := by simp
  by_cases h : x.size ≤ n
  · have HE := hid (lastN_all h)
    have h' : decide ((x.size : Int) ≤ (n : Int)) = true := by simp; omega
    go_enter Try.func50, Try.ntmps50
    go_wp2
    go_ret
    exact ⟨ret_s HE.out.symm, rfl⟩
  · have h' : decide ((x.size : Int) ≤ (n : Int)) = false := by simp; omega
    obtain ⟨m, hm⟩ : ∃ m : Nat, (x.size : Int) - (n : Int) = (m : Int) := ⟨x.size - n, by omega⟩
    have HE := hid (show lastN x n = x.extract m x.size from by unfold lastN; congr 1; omega)
    have hm2 : m ≤ x.size := by omega
    go_enter Try.func50, Try.ntmps50
    go_wp2
    go_ret
    exact ⟨ret_s HE.out.symm, rfl⟩

/-! ### The pieces in memory -/
def pRow (vp vf vt vk : Value) (j : Nat) : Value := if j = 0 then vp else if j = 1 then vf else if j = 2 then vt else vk
def rowP (s : ByteArray) (d n : Nat) : List Value := (List.range n).map fun i => Value.int .i64 (prv s d i)
def rowF (s : ByteArray) (d n : Nat) : List Value := (List.range n).map fun i => Value.int .i64 (fs s d i : Int)
def rowT (s : ByteArray) (d m n : Nat) : List Value := (List.range n).map fun i => Value.int .i64 (tmTo s d m i : Int)
def rowK (tk : Nat → Bool) (n : Nat) : List Value := (List.range n).map fun i => Value.bool (tk i)
theorem range_get {α : Type} (f : Nat → α) (n i : Nat) (h : i < n) : ((List.range n).map f)[i]? = some (f i) := by simp [h]
theorem range_app {α : Type} (f : Nat → α) (n : Nat) : (List.range n).map f ++ [f n] = (List.range (n + 1)).map f := by simp [List.range_succ]
theorem range_set {α : Type} {f g : Nat → α} {n k : Nat} {x : α} (h1 : g k = x) (h2 : ∀ i, i ≠ k → g i = f i) : ((List.range n).map f).set k x = (List.range n).map g := by
  apply List.ext_getElem?
  intro i
  rw [List.getElem?_set]
  by_cases hi : i < n
  · by_cases hk : k = i
    · subst hk
      simp [hi, h1]
    · rw [if_neg hk, range_get f n i hi, range_get g n i hi, h2 i (fun e => hk e.symm)]
  · by_cases hk : k = i
    · subst hk
      simp [hi]
    · rw [if_neg hk]
      simp [hi]

structure Pcs (w : World) (b B N : Nat) (s : ByteArray) (d : Nat) (tk : Nat → Bool) (gp cp gf cf gt ct gk ck : Nat) : Prop where
  row : w.rowIs b 96 4 (pRow (.slice (some ⟨gp, 0, none⟩) N cp) (.slice (some ⟨gf, 0, none⟩) N cf) (.slice (some ⟨gt, 0, none⟩) N ct) (.slice (some ⟨gk, 0, none⟩) N ck))
  p : w.ownsRow B 3 1 (.slice (some ⟨gp, 0, none⟩) N cp) N (rowP s d N)
  f : w.ownsRow B 3 1 (.slice (some ⟨gf, 0, none⟩) N cf) N (rowF s d N)
  t : w.ownsRow B 3 1 (.slice (some ⟨gt, 0, none⟩) N ct) N (rowT s d N N)
  k : w.ownsRow B 4 1 (.slice (some ⟨gk, 0, none⟩) N ck) N (rowK tk N)
  kp : gp ≠ gk
  kf : gf ≠ gk
  kt : gt ≠ gk
  kb : b ≠ gk
section
variable {w : World} {b B N : Nat} {s : ByteArray} {d : Nat} {tk : Nat → Bool} {gp cp gf cf gt ct gk ck : Nat}
theorem Pcs.b0 (h : Pcs w b B N s d tk gp cp gf cf gt ct gk ck) : w.cell? ⟨b, 0, none⟩ = some (.slice (some ⟨gp, 0, none⟩) N cp) := World.rowIs.cell h.row (i := 0) (by omega)
theorem Pcs.b1 (h : Pcs w b B N s d tk gp cp gf cf gt ct gk ck) : w.cell? ⟨b, 1, none⟩ = some (.slice (some ⟨gf, 0, none⟩) N cf) := World.rowIs.cell h.row (i := 1) (by omega)
theorem Pcs.b2 (h : Pcs w b B N s d tk gp cp gf cf gt ct gk ck) : w.cell? ⟨b, 2, none⟩ = some (.slice (some ⟨gt, 0, none⟩) N ct) := World.rowIs.cell h.row (i := 2) (by omega)
theorem Pcs.b3 (h : Pcs w b B N s d tk gp cp gf cf gt ct gk ck) : w.cell? ⟨b, 3, none⟩ = some (.slice (some ⟨gk, 0, none⟩) N ck) := World.rowIs.cell h.row (i := 3) (by omega)
theorem Pcs.cellP (h : Pcs w b B N s d tk gp cp gf cf gt ct gk ck) {i : Nat} (hi : i < N) : w.cell? ⟨gp, i, none⟩ = some (.int .i64 (prv s d i)) := by
  rw [World.ownsRow.cellAt h.p i (by omega)]; exact range_get _ _ _ hi
theorem Pcs.cellF (h : Pcs w b B N s d tk gp cp gf cf gt ct gk ck) {i : Nat} (hi : i < N) : w.cell? ⟨gf, i, none⟩ = some (.int .i64 (fs s d i : Int)) := by
  rw [World.ownsRow.cellAt h.f i (by omega)]; exact range_get _ _ _ hi
theorem Pcs.cellT (h : Pcs w b B N s d tk gp cp gf cf gt ct gk ck) {i : Nat} (hi : i < N) : w.cell? ⟨gt, i, none⟩ = some (.int .i64 (tmTo s d N i : Int)) := by
  rw [World.ownsRow.cellAt h.t i (by omega)]; exact range_get _ _ _ hi
theorem Pcs.cellK (h : Pcs w b B N s d tk gp cp gf cf gt ct gk ck) {i : Nat} (hi : i < N) : w.cell? ⟨gk, i, none⟩ = some (.bool (tk i)) := by
  rw [World.ownsRow.cellAt h.k i (by omega)]; exact range_get _ _ _ hi
theorem Pcs.drew (n : Nat) (h : Pcs w b B N s d tk gp cp gf cf gt ct gk ck) : Pcs (w.drewN n) b B N s d tk gp cp gf cf gt ct gk ck := ⟨h.row, h.p, h.f, h.t, h.k, h.kp, h.kf, h.kt, h.kb⟩
theorem Pcs.take (h : Pcs w b B N s d tk gp cp gf cf gt ct gk ck) (i : Nat) (tk' : Nat → Bool) (h1 : tk' i = true) (h2 : ∀ j, j ≠ i → tk' j = tk j) : Pcs (w.setCell ⟨gk, i, none⟩ (.bool true)) b B N s d tk' gp cp gf cf gt ct gk ck := by
  refine ⟨World.rowIs.setOther h.row h.kb _, ownsRow_setCell_other h.p (by simp [Value.ownBlock, h.kp]) _, ownsRow_setCell_other h.f (by simp [Value.ownBlock, h.kf]) _, ownsRow_setCell_other h.t (by simp [Value.ownBlock, h.kt]) _, ?_, h.kp, h.kf, h.kt, h.kb⟩
  have := (World.ownsRow.stored h.k i (.bool true)).1
  have e : (rowK tk N).set i (.bool true) = rowK tk' N := range_set (by rw [h1]) (fun j hj => by rw [h2 j hj])
  rw [e] at this
  exact this
end

set_option maxRecDepth 100000 in
set_option maxHeartbeats 800000 in
theorem score_any (s : ByteArray) (d N : Nat) (tk : Nat → Bool) (b B gp cp gf cf gt ct gk ck i x : Nat) (w : World) (h : Pcs w b B N s d tk gp cp gf cf gt ct gk ck) (hN : N ≤ 800) (hx : i + x ≤ N) :
    Calls Try.prog 59 #[.pointer (some ⟨b, 0, none⟩), .int .i64 i, .int .i64 x] w fun e w' => e = .returned (.int .i64 (scTo s d N tk i x : Int)) ∧ w' = w := by
  have b0 := h.b0
  have b1 := h.b1
  have b2 := h.b2
  have b3 := h.b3
  go_enter Try.func59, Try.ntmps59
  go_wp2
  go_loop [7, 8, 9] (fun n at' _ => ∃ y a : Nat, y ≤ x ∧ i + y = a ∧ at' = .int .i64 a ∧ n = .int .i64 (scTo s d N tk i y : Int)) (fun _ at' _ => i + x - (intOf at').toNat)
  case atStart => exact ⟨0, i, Nat.zero_le _, rfl, rfl, rfl⟩
  case round =>
    obtain ⟨y, a, hy, hya, rfl, rfl⟩ := hrel
    have hsc := scTo_le s d N tk i y
    have hyN : y * N ≤ 800 * 800 := Nat.mul_le_mul (by omega) (by omega)
    have HYA := hid hya
    by_cases hlt : y < x
    · have haN : a < N := by omega
      have hfs := (fs_spec s d a).1
      have hpv := prv_spec s d a
      have cP := h.cellP haN
      have cF := h.cellF haN
      have cT := h.cellT (i := fs s d a) (by omega)
      have cK := h.cellK (i := fs s d a) (by omega)
      have hfN : fs s d a < N := by omega
      have hp0 := hpv.1
      have hp1 := hpv.2.1
      have htm := tmTo_le s d N (fs s d a)
      have HS := hid (show scTo s d N tk i (y + 1) = scTo s d N tk i y + if prv s d a < (i : Int) then hw s d N tk (fs s d a) else 0 from by rw [scTo, hya])
      have HW := hid (show hw s d N tk (fs s d a) = if tk (fs s d a) then 0 else tmTo s d N (fs s d a) from rfl)
      have haX : (a : Int) < (i : Int) + (x : Int) := by omega
      clear hpv hya
      generalize scTo s d N tk i y = n0 at *
      generalize tmTo s d N (fs s d a) = T at *
      generalize hw s d N tk (fs s d a) = W at *
      generalize hF : fs s d a = F at *
      clear hF
      generalize prv s d a = P at *
      by_cases c1 : P < (i : Int)
      · have c1' : decide (P < (i : Int)) = true := by simp; omega
        rw [if_pos c1] at HS
        cases hk : tk F
        · rw [hk] at HW cK
          rw [if_neg (by simp)] at HW
          clear hk
          go_wp2
          go_round
          case rel => exact ⟨y + 1, a + 1, by omega, by have := HYA.out; omega, by go_num, by rw [HS.out, HW.out]; go_num⟩
          case measure => simp [intOf]; omega
        · rw [hk] at HW cK
          rw [if_pos rfl] at HW
          clear hk
          go_wp2
          go_round
          case rel => exact ⟨y + 1, a + 1, by omega, by have := HYA.out; omega, by go_num, by rw [HS.out, HW.out]; go_num⟩
          case measure => simp [intOf]; omega
      · have c1' : decide (P < (i : Int)) = false := by simp; omega
        rw [if_neg c1] at HS
        go_wp2
        go_round
        case rel => exact ⟨y + 1, a + 1, by omega, by have := HYA.out; omega, by go_num, by rw [HS.out]; go_num⟩
        case measure => simp [intOf]; omega
    · have HY := hid (show y = x from by omega)
      have haX : decide ((a : Int) < (i : Int) + (x : Int)) = false := by simp; omega
      clear hya
      go_wp2
      go_ret
      exact ⟨ret_int (by rw [HY.out]), rfl⟩

set_option maxRecDepth 100000 in
set_option maxHeartbeats 800000 in
theorem best_any (s : ByteArray) (d N : Nat) (tk : Nat → Bool) (b B gp cp gf cf gt ct gk ck x : Nat) (w : World) (h : Pcs w b B N s d tk gp cp gf cf gt ct gk ck) (hN : N ≤ 800) (hx : x ≤ N) :
    Calls Try.prog 48 #[.pointer (some ⟨b, 0, none⟩), .int .i64 x] w fun e w' => e = .returned (.tuple #[.int .i64 ((bsTo s d N tk x (N - x + 1)).1 : Int), .int .i64 ((bsTo s d N tk x (N - x + 1)).2 : Int)]) ∧ w' = w := by
  have b1 := h.b1
  have HC := hid (fun i (hi : i + x ≤ N) => score_any s d N tk b B gp cp gf cf gt ct gk ck i x w h hN hi)
  have HLE := hid (fun n => bsTo_le s d N tk x n)
  have HSL := hid (fun i => scTo_le s d N tk i x)
  have hxN : x * N ≤ 800 * 800 := Nat.mul_le_mul (by omega) (by omega)
  have HSTEP := hid (fun n => show bsTo s d N tk x (n + 1) = if (bsTo s d N tk x n).2 < scTo s d N tk n x then (n, scTo s d N tk n x) else bsTo s d N tk x n from rfl)
  have HB1 := hid (fun n (hn : 0 < n) => bsTo_lt s d N tk x n hn)
  have H0 := hid (show bsTo s d N tk x 0 = (0, 0) from rfl)
  generalize bsTo s d N tk x = F at *
  generalize hSC : (fun i => scTo s d N tk i x) = G at *
  have HG := hid (fun i => congrFun hSC i)
  clear hSC
  go_enter Try.func48, Try.ntmps48
  go_wp2
  go_loop [6, 7, 8, 9] (fun q m i _ => ∃ k : Nat, k ≤ N - x + 1 ∧ i = .int .i64 k ∧ q = .int .i64 ((F k).1 : Int) ∧ m = .int .i64 ((F k).2 : Int)) (fun _ _ i _ => N - x + 1 - (intOf i).toNat)
  case atStart => exact ⟨0, Nat.zero_le _, rfl, by rw [H0.out]; rfl, by rw [H0.out]; rfl⟩
  case round =>
    obtain ⟨k, hk, rfl, rfl, rfl⟩ := hrel
    have hm := HLE.out k
    by_cases hlt : k + x ≤ N
    · have hcall := hid (HC.out k hlt)
      have hs := HSL.out k
      have HST := hid (HSTEP.out k)
      have hd : (k : Int) ≤ (N : Int) - (x : Int) := by omega
      generalize scTo s d N tk k x = n at *
      generalize F k = fk at *
      obtain ⟨q, m⟩ := fk
      simp only at hm HST ⊢
      by_cases c : m < n
      · rw [if_pos c] at HST
        have c' : (m : Int) < (n : Int) := by omega
        go_wp2_with (go_at_call 59; refine Calls.mono hcall.out ?_; rintro e w' ⟨rfl, rfl⟩)
        go_round
        case rel => exact ⟨k + 1, by omega, by go_num, by rw [HST.out], by rw [HST.out]⟩
        case measure => simp [intOf]; omega
      · rw [if_neg c] at HST
        have c' : ¬ (m : Int) < (n : Int) := by omega
        go_wp2_with (go_at_call 59; refine Calls.mono hcall.out ?_; rintro e w' ⟨rfl, rfl⟩)
        go_round
        case rel => exact ⟨k + 1, by omega, by go_num, by rw [HST.out], by rw [HST.out]⟩
        case measure => simp [intOf]; omega
    · have HK := hid (show k = N - x + 1 from by omega)
      have hd : decide ((k : Int) ≤ (N : Int) - (x : Int)) = false := by simp; omega
      go_wp2
      go_ret2
      exact ⟨ret_two (by rw [HK.out]) (by rw [HK.out]), rfl⟩

set_option maxRecDepth 100000 in
set_option maxHeartbeats 800000 in
theorem take_any (s : ByteArray) (d N : Nat) (tk : Nat → Bool) (b B gp cp gf cf gt ct gk ck i x : Nat) (w : World) (h : Pcs w b B N s d tk gp cp gf cf gt ct gk ck) (hN : N ≤ 800) (hx : i + x ≤ N) :
    Calls Try.prog 49 #[.pointer (some ⟨b, 0, none⟩), .int .i64 i, .int .i64 x] w fun e w' => e = .returned (.tuple #[]) ∧ Pcs w' b B N s d (tkTo s d tk i x) gp cp gf cf gt ct gk ck ∧ Below B w w' := by
  have hgk : B ≤ gk := own_base h.k gk rfl
  go_enter Try.func49, Try.ntmps49
  go_wp2
  go_loopw [6] (fun at' wr => ∃ y a : Nat, y ≤ x ∧ i + y = a ∧ at' = .int .i64 a ∧ Pcs wr b B N s d (tkTo s d tk i y) gp cp gf cf gt ct gk ck ∧ Below B w wr) (fun at' _ => i + x - (intOf at').toNat)
  case atStart => exact ⟨0, i, Nat.zero_le _, rfl, rfl, h, Below.refl _ _⟩
  case round =>
    obtain ⟨y, a, hy, hya, rfl, hP, hbel⟩ := hrel
    have HYA := hid hya
    have b1 := hP.b1
    have b3 := hP.b3
    by_cases hlt : y < x
    · have haN : a < N := by omega
      have hfs := (fs_spec s d a).1
      have cF := hP.cellF haN
      have hfN : fs s d a < N := by omega
      have cK := hP.cellK hfN
      have fK := World.ownsRow.frozenAt hP.k (fs s d a)
      have HT := hid (hP.take (fs s d a) (tkTo s d tk i (y + 1)) (by rw [tkTo, if_pos (by rw [hya])]) (fun j hj => by rw [tkTo, if_neg (by rw [hya]; exact fun e => hj e.symm)]))
      have HB := hid (hbel.setCell (p := ⟨gk, fs s d a, none⟩) hgk (.bool true))
      have haX : (a : Int) < (i : Int) + (x : Int) := by omega
      have haNi : (a : Int) < (N : Int) := by omega
      have hfNi : (fs s d a : Int) < (N : Int) := by omega
      clear hya
      generalize fs s d a = F at *
      go_wp2_with fail
      go_region
      all_goals
        go_wp2
        go_roundw
        case rel => exact ⟨y + 1, a + 1, by omega, by have := HYA.out; omega, by go_num, HT.out.drew _, Below.drewN HB.out _⟩
        case measure => simp [intOf]; omega
    · have HY := hid (show y = x from by omega)
      have haX : decide ((a : Int) < (i : Int) + (x : Int)) = false := by simp; omega
      clear hya
      go_wp2
      go_end0
      rw [← HY.out]
      exact ⟨rfl, hP, hbel⟩
end Go.Proofs.Ytnconbpneimjiaa

/-! ###  P7: the walk of find. -/
namespace Go.Proofs.Ytnconbpneimjiaa
open Go.RowKit Go.PlainAid

/-! ### Several slices of the call's own -/
theorem own_frm {w : World} {base size n e : Nat} {v : Value} {xs : List Value} (h : w.ownsRow base e size v n xs) (hn : 0 < n) : ∃ g cap, v = .slice (some ⟨g, 0, none⟩) n cap := by
  rcases h.2 with ⟨_, h0⟩ | ⟨g, cap, _, hv, _⟩
  · omega
  · exact ⟨g, cap, hv⟩
section
variable {w : World} {b t : Nat} {x0 x1 x2 x3 : Value}
theorem pRow_c0 (h : w.rowIs b t 4 (pRow x0 x1 x2 x3)) : w.cell? ⟨b, 0, none⟩ = some x0 := World.rowIs.cell h (i := 0) (by omega)
theorem pRow_c1 (h : w.rowIs b t 4 (pRow x0 x1 x2 x3)) : w.cell? ⟨b, 1, none⟩ = some x1 := World.rowIs.cell h (i := 1) (by omega)
theorem pRow_c2 (h : w.rowIs b t 4 (pRow x0 x1 x2 x3)) : w.cell? ⟨b, 2, none⟩ = some x2 := World.rowIs.cell h (i := 2) (by omega)
theorem pRow_c3 (h : w.rowIs b t 4 (pRow x0 x1 x2 x3)) : w.cell? ⟨b, 3, none⟩ = some x3 := World.rowIs.cell h (i := 3) (by omega)
end
theorem cell_one_at {w : World} {x : Value} {e B : Nat} (h : B = w.heap.size) : ∀ j u, [x][j]? = some u → (w.alloc (.cells #[x] e)).cell? ((⟨B, 0, none⟩ : Addr).add j) = some u := by
  subst h
  exact cell_one_new _ _ _
def apart (u v : Value) : Prop := u.ownBlock = none ∨ u.ownBlock ≠ v.ownBlock
theorem apart.symm {u v : Value} (h : apart u v) : apart v u := by
  rcases h with h | h
  · unfold apart
    rw [h]
    cases hv : v.ownBlock
    · exact .inl rfl
    · exact .inr (by simp)
  · exact .inr (fun e => h e.symm)
theorem apart_new {w1 : World} {o : Obj} {B e : Nat} {u v v' : Value} {m : Nat} {ys : List Value} (hu : w1.ownsRow B e 1 u m ys) (ha : apart u v) (hat : v'.ownBlock = v.ownBlock ∨ v'.ownBlock = some (w1.alloc o).heap.size) : apart u v' := by
  rcases hat with h | h
  · unfold apart; rw [h]; exact ha
  · cases hq : u.ownBlock with
    | none => exact .inl hq
    | some g =>
      refine .inr ?_
      rw [h, hq]
      have := (hu.lt g hq).2
      simp
      omega
theorem own_step {w1 w2 : World} {o : Obj} {B b i e : Nat} {u v v' : Value} {m : Nat} {ys : List Value} (hu : w1.ownsRow B e 1 u m ys) (ha : apart u v) (hg : (w1.alloc o).grownBy w2 v.ownBlock) (hb : b < B) : (w2.setCell ⟨b, i, none⟩ v').ownsRow B e 1 u m ys :=
  ownsRow_setCell_below ((hu.alloc o).kept hg ha) (by exact hb) v'

structure Fnd (w : World) (b B : Nat) (vp vf vt vk : Value) (np nf nt nk : Nat) (xp xf xt xk : List Value) : Prop where
  lt : b < B
  row : w.rowIs b 96 4 (pRow vp vf vt vk)
  p : w.ownsRow B 3 1 vp np xp
  f : w.ownsRow B 3 1 vf nf xf
  t : w.ownsRow B 3 1 vt nt xt
  k : w.ownsRow B 4 1 vk nk xk
  pf : apart vp vf
  pt : apart vp vt
  pk : apart vp vk
  ft : apart vf vt
  fk : apart vf vk
  tk : apart vt vk
section
variable {w w2 : World} {o : Obj} {b B : Nat} {vp vf vt vk v' : Value} {np nf nt nk : Nat} {xp xf xt xk : List Value} {x : Value}
theorem Fnd.mid (h : Fnd w b B vp vf vt vk np nf nt nk xp xf xt xk) {v : Value} (hv : ∀ k, v.ownBlock = some k → B ≤ k) (hg : (w.alloc o).grownBy w2 v.ownBlock) : w2.rowIs b 96 4 (pRow vp vf vt vk) := by
  have hl := World.rowIs.lt h.row
  have h0 := h.lt
  refine World.rowIs.of_block (World.rowIs.alloc h.row o) (hg.block b (by simp; omega) (fun e => ?_))
  have := hv b e.symm
  omega
theorem Fnd.appP (h : Fnd w b B vp vf vt vk np nf nt nk xp xf xt xk) (hg : (w.alloc o).grownBy w2 vp.ownBlock) (ho : w2.ownsRow B 3 1 v' (np + 1) (xp ++ [x])) (hat : v'.ownBlock = vp.ownBlock ∨ v'.ownBlock = some (w.alloc o).heap.size) :
    Fnd (w2.setCell ⟨b, 0, none⟩ v') b B v' vf vt vk (np + 1) nf nt nk (xp ++ [x]) xf xt xk :=
  ⟨h.lt, World.rowIs.congr (World.rowIs.set (h.mid (own_base h.p) hg) 0 v') (fun i hi => by match i, hi with | 0, _ => rfl | 1, _ => rfl | 2, _ => rfl | 3, _ => rfl), ownsRow_setCell_below ho h.lt v', own_step h.f h.pf.symm hg h.lt, own_step h.t h.pt.symm hg h.lt, own_step h.k h.pk.symm hg h.lt,
    (apart_new h.f h.pf.symm hat).symm, (apart_new h.t h.pt.symm hat).symm, (apart_new h.k h.pk.symm hat).symm, h.ft, h.fk, h.tk⟩
theorem Fnd.appF (h : Fnd w b B vp vf vt vk np nf nt nk xp xf xt xk) (hg : (w.alloc o).grownBy w2 vf.ownBlock) (ho : w2.ownsRow B 3 1 v' (nf + 1) (xf ++ [x])) (hat : v'.ownBlock = vf.ownBlock ∨ v'.ownBlock = some (w.alloc o).heap.size) :
    Fnd (w2.setCell ⟨b, 1, none⟩ v') b B vp v' vt vk np (nf + 1) nt nk xp (xf ++ [x]) xt xk :=
  ⟨h.lt, World.rowIs.congr (World.rowIs.set (h.mid (own_base h.f) hg) 1 v') (fun i hi => by match i, hi with | 0, _ => rfl | 1, _ => rfl | 2, _ => rfl | 3, _ => rfl), own_step h.p h.pf hg h.lt, ownsRow_setCell_below ho h.lt v', own_step h.t h.ft.symm hg h.lt, own_step h.k h.fk.symm hg h.lt,
    apart_new h.p h.pf hat, h.pt, h.pk, (apart_new h.t h.ft.symm hat).symm, (apart_new h.k h.fk.symm hat).symm, h.tk⟩
theorem Fnd.appT (h : Fnd w b B vp vf vt vk np nf nt nk xp xf xt xk) (hg : (w.alloc o).grownBy w2 vt.ownBlock) (ho : w2.ownsRow B 3 1 v' (nt + 1) (xt ++ [x])) (hat : v'.ownBlock = vt.ownBlock ∨ v'.ownBlock = some (w.alloc o).heap.size) :
    Fnd (w2.setCell ⟨b, 2, none⟩ v') b B vp vf v' vk np nf (nt + 1) nk xp xf (xt ++ [x]) xk :=
  ⟨h.lt, World.rowIs.congr (World.rowIs.set (h.mid (own_base h.t) hg) 2 v') (fun i hi => by match i, hi with | 0, _ => rfl | 1, _ => rfl | 2, _ => rfl | 3, _ => rfl), own_step h.p h.pt hg h.lt, own_step h.f h.ft hg h.lt, ownsRow_setCell_below ho h.lt v', own_step h.k h.tk.symm hg h.lt,
    h.pf, apart_new h.p h.pt hat, h.pk, apart_new h.f h.ft hat, h.fk, (apart_new h.k h.tk.symm hat).symm⟩
theorem Fnd.appK (h : Fnd w b B vp vf vt vk np nf nt nk xp xf xt xk) (hg : (w.alloc o).grownBy w2 vk.ownBlock) (ho : w2.ownsRow B 4 1 v' (nk + 1) (xk ++ [x])) (hat : v'.ownBlock = vk.ownBlock ∨ v'.ownBlock = some (w.alloc o).heap.size) :
    Fnd (w2.setCell ⟨b, 3, none⟩ v') b B vp vf vt v' np nf nt (nk + 1) xp xf xt (xk ++ [x]) :=
  ⟨h.lt, World.rowIs.congr (World.rowIs.set (h.mid (own_base h.k) hg) 3 v') (fun i hi => by match i, hi with | 0, _ => rfl | 1, _ => rfl | 2, _ => rfl | 3, _ => rfl), own_step h.p h.pk hg h.lt, own_step h.f h.fk hg h.lt, own_step h.t h.tk hg h.lt, ownsRow_setCell_below ho h.lt v',
    h.pf, h.pt, apart_new h.p h.pk hat, h.ft, apart_new h.f h.fk hat, apart_new h.t h.tk hat⟩
theorem own_other {B e : Nat} {u : Value} {m : Nat} {ys : List Value} {g j : Nat} {a : Value} (hu : w.ownsRow B e 1 u m ys) (ha : u.ownBlock = none ∨ u.ownBlock ≠ some g) : (w.setCell ⟨g, j, none⟩ a).ownsRow B e 1 u m ys :=
  ownsRow_setCell_other hu (by rcases ha with h | h
                               · rw [h]; simp
                               · exact h) a
theorem Fnd.bump {gt ct : Nat} (h : Fnd w b B vp vf (.slice (some ⟨gt, 0, none⟩) nt ct) vk np nf nt nk xp xf xt xk) (j : Nat) (u : Value) :
    Fnd (w.setCell ⟨gt, j, none⟩ u) b B vp vf (.slice (some ⟨gt, 0, none⟩) nt ct) vk np nf nt nk xp xf (xt.set j u) xk :=
  ⟨h.lt, World.rowIs.setOther h.row (by have := own_base h.t gt rfl; have := h.lt; exact fun e => by simp at e; omega) _, own_other h.p h.pt, own_other h.f h.ft, (World.ownsRow.stored h.t j u).1, own_other h.k h.tk.symm, h.pf, h.pt, h.pk, h.ft, h.fk, h.tk⟩
end
theorem bel_step {a w w2 : World} {o : Obj} {b B : Nat} {v vn : Value} (h : Below b a w) (hB : b < B) (hl : b < w.heap.size) (hv : ∀ k, v.ownBlock = some k → B ≤ k) (hg : (w.alloc o).grownBy w2 v.ownBlock) (i : Nat) : Below b a (w2.setCell ⟨b, i, none⟩ vn) :=
  ((h.alloc (by omega) o).grown hg (by simp; omega) (fun k hk => by have := hv k hk; omega)).setCell (p := ⟨b, i, none⟩) (Nat.le_refl _) vn
theorem own_blocks {w w' : World} {B e : Nat} {v : Value} {n : Nat} {xs : List Value} (h : w.ownsRow B e 1 v n xs) (hk : ∀ k, B ≤ k → w'.heap[k]? = w.heap[k]?) : w'.ownsRow B e 1 v n xs := by
  refine ⟨h.1, ?_⟩
  rcases h.2 with h2 | ⟨g, cap, cur, rfl, hg, hgb, r⟩
  · exact .inl h2
  · exact .inr ⟨g, cap, cur, rfl, hg, by rw [hk g hg]; exact hgb, r⟩
theorem pRow_one {a1 n1 c1 a2 n2 c2 a3 n3 c3 a4 n4 c4 : Nat} (i : Nat) : (pRow (.slice (some ⟨a1, 0, none⟩) n1 c1) (.slice (some ⟨a2, 0, none⟩) n2 c2) (.slice (some ⟨a3, 0, none⟩) n3 c3) (.slice (some ⟨a4, 0, none⟩) n4 c4) i).oneCell' = true := by
  unfold pRow
  split
  · rfl
  · split
    · rfl
    · split <;> rfl
theorem rowT_zero (s : ByteArray) (d n : Nat) : rowT s d n n ++ [.int .i64 0] = rowT s d n (n + 1) := by
  have e : tmTo s d n n = 0 := by
    have : ∀ m, m ≤ n → tmTo s d m n = 0 := by
      intro m
      induction m with
      | zero => intro _; rfl
      | succ m ih =>
        intro hm
        have := (fs_spec s d m).1
        rw [tmTo, ih (by omega), if_neg (by omega)]
    exact this n (Nat.le_refl _)
  have := range_app (fun i => Value.int .i64 (tmTo s d n i : Int)) n
  simp only [e] at this
  exact this
theorem rowT_bump (s : ByteArray) (d n m : Nat) : (rowT s d n m).set (fs s d n) (.int .i64 ((tmTo s d n (fs s d n) : Int) + 1)) = rowT s d (n + 1) m := by
  refine range_set ?_ (fun i hi => ?_)
  · rw [tmTo, if_pos rfl]; rfl
  · rw [tmTo, if_neg (fun e => hi e.symm)]; rfl
theorem sizePcs : (Try.prog.info? 96).map (·.size) = some 4 := by kernel_rfl
def nilS : Value := .slice none 0 0
theorem pRow_new (w : World) : (w.alloc (.cells #[.slice none 0 0, .slice none 0 0, .slice none 0 0, .slice none 0 0] 96)).rowIs w.heap.size 96 4 (pRow nilS nilS nilS nilS) :=
  World.rowIs_alloc w #[.slice none 0 0, .slice none 0 0, .slice none 0 0, .slice none 0 0] 96 (pRow nilS nilS nilS nilS) (fun i hi => by
    have hi' : i < 4 := hi
    match i, hi' with
    | 0, _ => rfl
    | 1, _ => rfl
    | 2, _ => rfl
    | 3, _ => rfl)

set_option maxRecDepth 100000 in
set_option maxHeartbeats 3200000 in
theorem find_any (s : ByteArray) (d : Nat) (w : World) (hs : s.size ≤ 800) (hd1 : 1 ≤ d) (hd : d ≤ s.size) :
    Calls Try.prog 47 #[.string s, .int .i64 d] w fun e w' => ∃ b vp vf vt vk, e = .returned (.agg (arrOf 4 (pRow vp vf vt vk))) ∧ Fnd w' b (w.heap.size + 2) vp vf vt vk (s.size - d + 1) (s.size - d + 1) (s.size - d + 1) (s.size - d + 1) (rowP s d (s.size - d + 1)) (rowF s d (s.size - d + 1)) (rowT s d (s.size - d + 1) (s.size - d + 1)) (rowK (fun _ => false) (s.size - d + 1)) ∧ Below w.heap.size w w' := by
  obtain ⟨i0, hi, hz0, hz1, hz2⟩ := info_parts Try.infoInt
  obtain ⟨i1, gi, gz0, gz1, gz2⟩ := info_parts Try.infoBool
  go_enter Try.func47, Try.ntmps47
  go_wp2
  have r0 : ((w.alloc (.cells #[.slice none 0 0, .slice none 0 0, .slice none 0 0, .slice none 0 0] 96)).alloc (.cells #[.slice none 0 0, .slice none 0 0, .slice none 0 0, .slice none 0 0] 96)).rowIs w.heap.size 96 4 (pRow nilS nilS nilS nilS) := World.rowIs.alloc (pRow_new w) _
  have r1 := pRow_new (w.alloc (.cells #[.slice none 0 0, .slice none 0 0, .slice none 0 0, .slice none 0 0] 96))
  have hsz1 : (w.alloc (.cells #[.slice none 0 0, .slice none 0 0, .slice none 0 0, .slice none 0 0] 96)).heap.size = w.heap.size + 1 := by simp
  rw [hsz1] at r1
  have bel0 : Below w.heap.size w ((w.alloc (.cells #[.slice none 0 0, .slice none 0 0, .slice none 0 0, .slice none 0 0] 96)).alloc (.cells #[.slice none 0 0, .slice none 0 0, .slice none 0 0, .slice none 0 0] 96)) := ((Below.refl _ _).alloc (Nat.le_refl _) _).alloc (by simp) _
  have hszW : ((w.alloc (.cells #[.slice none 0 0, .slice none 0 0, .slice none 0 0, .slice none 0 0] 96)).alloc (.cells #[.slice none 0 0, .slice none 0 0, .slice none 0 0, .slice none 0 0] 96)).heap.size = w.heap.size + 2 := by simp
  generalize ((w.alloc (.cells #[.slice none 0 0, .slice none 0 0, .slice none 0 0, .slice none 0 0] 96)).alloc (.cells #[.slice none 0 0, .slice none 0 0, .slice none 0 0, .slice none 0 0] 96)) = W at *
  go_loopw [6, 7, 8] (fun i _ _ wr => ∃ n : Nat, n ≤ s.size - d + 1 ∧ i = .int .i64 n ∧ (∃ vp vf vt vk, Fnd wr (w.heap.size + 1) (w.heap.size + 2) vp vf vt vk n n n n (rowP s d n) (rowF s d n) (rowT s d n n) (rowK (fun _ => false) n)) ∧ Below (w.heap.size + 1) W wr) (fun i _ _ _ => s.size - d + 1 - (intOf i).toNat)
  case atStart => exact ⟨0, Nat.zero_le _, rfl, ⟨nilS, nilS, nilS, nilS, ⟨by omega, r1, World.ownsRow_nil _ _ _ _, World.ownsRow_nil _ _ _ _, World.ownsRow_nil _ _ _ _, World.ownsRow_nil _ _ _ _, .inl rfl, .inl rfl, .inl rfl, .inl rfl, .inl rfl, .inl rfl⟩⟩, Below.refl _ _⟩
  case round =>
    obtain ⟨n, hn, rfl, ⟨vp, vf, vt, vk, hF⟩, hbel⟩ := hrel
    have hszr := hbel.size
    obtain ⟨b, hbe⟩ : ∃ b, b = w.heap.size + 1 := ⟨_, rfl⟩
    have HBE := hid hbe
    rw [← hbe] at hF hbel ⊢
    have q0 : wr.cell? ⟨b, 0, none⟩ = some vp := World.rowIs.cell hF.row (i := 0) (by omega)
    have q1 : wr.cell? ⟨b, 1, none⟩ = some vf := World.rowIs.cell hF.row (i := 1) (by omega)
    have q2 : wr.cell? ⟨b, 2, none⟩ = some vt := World.rowIs.cell hF.row (i := 2) (by omega)
    have q3 : wr.cell? ⟨b, 3, none⟩ = some vk := World.rowIs.cell hF.row (i := 3) (by omega)
    by_cases hlt : n + d ≤ s.size
    · have hcall := hid (prev_any s d n wr hs hlt)
      have hcond : (n : Int) ≤ (s.size : Int) - (d : Int) := by omega
      have hpv := prv_spec s d n
      have hp0 := hpv.1
      have hp1 := hpv.2.1
      have hfn := (fs_spec s d n).1
      have HFP := hid (fs_prv s d n)
      have HRP := hid (range_app (fun i => Value.int .i64 (prv s d i)) n)
      have HRF := hid (range_app (fun i => Value.int .i64 (fs s d i : Int)) n)
      have HRK := hid (range_app (fun _ : Nat => Value.bool false) n)
      have htm := tmTo_le s d n (fs s d n)
      clear hpv
      generalize prv s d n = P at *
      generalize hFS : fs s d n = F at *
      have HFS := hid hFS
      clear hFS hbe
      by_cases hpp : 0 ≤ P
      · have hd0 : decide (0 ≤ P) = true := by simp; omega
        obtain ⟨p, rfl⟩ := Int.eq_ofNat_of_zero_le hpp
        rw [if_pos hpp, Int.toNat_natCast] at HFP
        obtain ⟨gf, cf, rfl⟩ := own_frm hF.f (by omega)
        have cF : wr.cell? ⟨gf, p, none⟩ = some (.int .i64 (F : Int)) := by
          rw [World.ownsRow.cellAt hF.f p (by omega), HFP.out]; exact range_get _ _ _ (by omega)
        clear HFP
        go_wp2_with (first
          | (go_at_call 58; refine Calls.mono hcall.out ?_; rintro e w' ⟨rfl, rfl⟩)
          | (at_builtin; refine wpList_append_own_at _ rfl (.tmp 30) (.tmp 32) 61 rfl (w.heap.size + 2) 3 i0 (.int .i64 0) 1 8 Try.underlying61 hi hz0 hz1 hz2 rfl (by decide) _ _ _ rfl (hF.p.alloc _) ⟨_, 0, none⟩ 1 1 [.int .i64 (p : Int)] rfl rfl (cell_one_at (by first | rfl | simp)) (by intro u hu; simp at hu; subst hu; rfl) (by unfold maxLen; omega) (by omega) (by simp; omega) ?_; intro vp2 w2 o_w2 g_w2 _ t_w2; have s_w2 := g_w2.size; simp at s_w2; have m_w2 := hid (hF.mid (own_base hF.p) g_w2); have k1_w2 := pRow_c1 m_w2.out; have k0_w2 := pRow_c0 m_w2.out; have f_w2 := World.rowIs.frozen m_w2.out 0; have B2 := hid (bel_step (vn := vp2) hbel hF.lt (World.rowIs.lt hF.row) (own_base hF.p) g_w2 0); have F2 := hid (hF.appP g_w2 o_w2 t_w2); obtain ⟨gp, cp, rfl⟩ := own_frm o_w2 (by omega); clear o_w2 t_w2)
          | (at_builtin; refine wpList_append_own_at _ rfl (.tmp 36) (.tmp 38) 61 rfl (w.heap.size + 2) 3 i0 (.int .i64 0) 1 8 Try.underlying61 hi hz0 hz1 hz2 rfl (by decide) _ _ _ rfl (F2.out.f.alloc _) ⟨_, 0, none⟩ 1 1 [.int .i64 (F : Int)] rfl rfl (cell_one_at (by first | rfl | simp)) (by intro u hu; simp at hu; subst hu; rfl) (by unfold maxLen; omega) (by omega) (by simp; omega) ?_; intro vf2 w3 o_w3 g_w3 _ t_w3; have s_w3 := g_w3.size; simp at s_w3; have m_w3 := hid (F2.out.mid (own_base F2.out.f) g_w3); have k2_w3 := pRow_c2 m_w3.out; have k1_w3 := pRow_c1 m_w3.out; have f_w3 := World.rowIs.frozen m_w3.out 1; have B3 := hid (bel_step (vn := vf2) B2.out F2.out.lt (World.rowIs.lt F2.out.row) (own_base F2.out.f) g_w3 1); have F3 := hid (F2.out.appF g_w3 o_w3 t_w3); obtain ⟨gf2, cf2, rfl⟩ := own_frm o_w3 (by omega); clear o_w3 t_w3)
          | (at_builtin; refine wpList_append_own_at _ rfl (.tmp 42) (.tmp 43) 61 rfl (w.heap.size + 2) 3 i0 (.int .i64 0) 1 8 Try.underlying61 hi hz0 hz1 hz2 rfl (by decide) _ _ _ rfl (F3.out.t.alloc _) ⟨_, 0, none⟩ 1 1 [.int .i64 0] rfl rfl (cell_one_at (by first | rfl | simp)) (by intro u hu; simp at hu; subst hu; rfl) (by unfold maxLen; omega) (by omega) (by simp; omega) ?_; intro vt2 w4 o_w4 g_w4 _ t_w4; have s_w4 := g_w4.size; simp at s_w4; have m_w4 := hid (F3.out.mid (own_base F3.out.t) g_w4); have k3_w4 := pRow_c3 m_w4.out; have k2_w4 := pRow_c2 m_w4.out; have f_w4 := World.rowIs.frozen m_w4.out 2; have B4 := hid (bel_step (vn := vt2) B3.out F3.out.lt (World.rowIs.lt F3.out.row) (own_base F3.out.t) g_w4 2); have F4 := hid (F3.out.appT g_w4 o_w4 t_w4); obtain ⟨gt, ct, rfl⟩ := own_frm o_w4 (by omega); clear o_w4 t_w4)
          | (at_builtin; refine wpList_append_own_at _ rfl (.tmp 47) (.tmp 48) 63 rfl (w.heap.size + 2) 4 i1 (.bool false) 1 1 Try.underlying63 gi gz0 gz1 gz2 rfl (by decide) _ _ _ rfl (F4.out.k.alloc _) ⟨_, 0, none⟩ 1 1 [.bool false] rfl rfl (cell_one_at (by first | rfl | simp)) (by intro u hu; simp at hu; subst hu; rfl) (by unfold maxLen; omega) (by omega) (by simp; omega) ?_; intro vk2 w5 o_w5 g_w5 _ t_w5; have s_w5 := g_w5.size; simp at s_w5; have m_w5 := hid (F4.out.mid (own_base F4.out.k) g_w5); have k2_w5 := pRow_c2 m_w5.out; have k3_w5 := pRow_c3 m_w5.out; have f_w5 := World.rowIs.frozen m_w5.out 3; have B5 := hid (bel_step (vn := vk2) B4.out F4.out.lt (World.rowIs.lt F4.out.row) (own_base F4.out.k) g_w5 3); have F5 := hid (F4.out.appK g_w5 o_w5 t_w5); obtain ⟨gk, ck, rfl⟩ := own_frm o_w5 (by omega); clear o_w5 t_w5; have hTc := (World.ownsRow.cellAt F5.out.t F (by omega)).trans (show _ = some (Value.int .i64 (tmTo s d n F : Int)) from by rw [rowT_zero]; exact range_get _ _ _ (by omega)); have hTf := World.ownsRow.frozenAt F5.out.t F))
        go_roundw
        case rel =>
          have F6 := F5.out.bump F (.int .i64 ((tmTo s d n F : Int) + 1))
          rw [rowT_zero, show (rowT s d n (n + 1)).set F (.int .i64 ((tmTo s d n F : Int) + 1)) = rowT s d (n + 1) (n + 1) from by have q := rowT_bump s d n (n + 1); rw [HFS.out] at q; exact q] at F6
          have F7 := F6
          rw [show rowP s d n ++ [Value.int .i64 (p : Int)] = rowP s d (n + 1) from HRP.out, show rowF s d n ++ [Value.int .i64 (F : Int)] = rowF s d (n + 1) from HRF.out, show rowK (fun _ => false) n ++ [Value.bool false] = rowK (fun _ => false) (n + 1) from HRK.out] at F7
          have B6 := B5.out.setCell (p := ⟨gt, F, none⟩) (show b ≤ gt by have := own_base F5.out.t gt rfl; have := F5.out.lt; omega) (.int .i64 ((tmTo s d n F : Int) + 1))
          have hbe := HBE.out
          subst hbe
          first
            | exact ⟨n + 1, by omega, by go_num, ⟨_, _, _, _, F7⟩, B6⟩
            | ((repeat apply Exists.intro); exact ⟨⟨n + 1, by omega, by go_num, ⟨_, _, _, _, F7⟩, B6⟩, rfl⟩)
        case measure => simp [intOf]; omega
      · have hd0 : decide (0 ≤ P) = false := by simp; omega
        rw [if_neg hpp] at HFP
        have hFn := HFP.out.symm
        subst hFn
        clear HFP
        go_wp2_with (first
          | (go_at_call 58; refine Calls.mono hcall.out ?_; rintro e w' ⟨rfl, rfl⟩)
          | (at_builtin; refine wpList_append_own_at _ rfl (.tmp 30) (.tmp 32) 61 rfl (w.heap.size + 2) 3 i0 (.int .i64 0) 1 8 Try.underlying61 hi hz0 hz1 hz2 rfl (by decide) _ _ _ rfl (hF.p.alloc _) ⟨_, 0, none⟩ 1 1 [.int .i64 P] rfl rfl (cell_one_at (by first | rfl | simp)) (by intro u hu; simp at hu; subst hu; rfl) (by unfold maxLen; omega) (by omega) (by simp; omega) ?_; intro vp2 w2 o_w2 g_w2 _ t_w2; have s_w2 := g_w2.size; simp at s_w2; have m_w2 := hid (hF.mid (own_base hF.p) g_w2); have k1_w2 := pRow_c1 m_w2.out; have k0_w2 := pRow_c0 m_w2.out; have f_w2 := World.rowIs.frozen m_w2.out 0; have B2 := hid (bel_step (vn := vp2) hbel hF.lt (World.rowIs.lt hF.row) (own_base hF.p) g_w2 0); have F2 := hid (hF.appP g_w2 o_w2 t_w2); obtain ⟨gp, cp, rfl⟩ := own_frm o_w2 (by omega); clear o_w2 t_w2)
          | (at_builtin; refine wpList_append_own_at _ rfl (.tmp 36) (.tmp 38) 61 rfl (w.heap.size + 2) 3 i0 (.int .i64 0) 1 8 Try.underlying61 hi hz0 hz1 hz2 rfl (by decide) _ _ _ rfl (F2.out.f.alloc _) ⟨_, 0, none⟩ 1 1 [.int .i64 (n : Int)] rfl rfl (cell_one_at (by first | rfl | simp)) (by intro u hu; simp at hu; subst hu; rfl) (by unfold maxLen; omega) (by omega) (by simp; omega) ?_; intro vf2 w3 o_w3 g_w3 _ t_w3; have s_w3 := g_w3.size; simp at s_w3; have m_w3 := hid (F2.out.mid (own_base F2.out.f) g_w3); have k2_w3 := pRow_c2 m_w3.out; have k1_w3 := pRow_c1 m_w3.out; have f_w3 := World.rowIs.frozen m_w3.out 1; have B3 := hid (bel_step (vn := vf2) B2.out F2.out.lt (World.rowIs.lt F2.out.row) (own_base F2.out.f) g_w3 1); have F3 := hid (F2.out.appF g_w3 o_w3 t_w3); obtain ⟨gf2, cf2, rfl⟩ := own_frm o_w3 (by omega); clear o_w3 t_w3)
          | (at_builtin; refine wpList_append_own_at _ rfl (.tmp 42) (.tmp 43) 61 rfl (w.heap.size + 2) 3 i0 (.int .i64 0) 1 8 Try.underlying61 hi hz0 hz1 hz2 rfl (by decide) _ _ _ rfl (F3.out.t.alloc _) ⟨_, 0, none⟩ 1 1 [.int .i64 0] rfl rfl (cell_one_at (by first | rfl | simp)) (by intro u hu; simp at hu; subst hu; rfl) (by unfold maxLen; omega) (by omega) (by simp; omega) ?_; intro vt2 w4 o_w4 g_w4 _ t_w4; have s_w4 := g_w4.size; simp at s_w4; have m_w4 := hid (F3.out.mid (own_base F3.out.t) g_w4); have k3_w4 := pRow_c3 m_w4.out; have k2_w4 := pRow_c2 m_w4.out; have f_w4 := World.rowIs.frozen m_w4.out 2; have B4 := hid (bel_step (vn := vt2) B3.out F3.out.lt (World.rowIs.lt F3.out.row) (own_base F3.out.t) g_w4 2); have F4 := hid (F3.out.appT g_w4 o_w4 t_w4); obtain ⟨gt, ct, rfl⟩ := own_frm o_w4 (by omega); clear o_w4 t_w4)
          | (at_builtin; refine wpList_append_own_at _ rfl (.tmp 47) (.tmp 48) 63 rfl (w.heap.size + 2) 4 i1 (.bool false) 1 1 Try.underlying63 gi gz0 gz1 gz2 rfl (by decide) _ _ _ rfl (F4.out.k.alloc _) ⟨_, 0, none⟩ 1 1 [.bool false] rfl rfl (cell_one_at (by first | rfl | simp)) (by intro u hu; simp at hu; subst hu; rfl) (by unfold maxLen; omega) (by omega) (by simp; omega) ?_; intro vk2 w5 o_w5 g_w5 _ t_w5; have s_w5 := g_w5.size; simp at s_w5; have m_w5 := hid (F4.out.mid (own_base F4.out.k) g_w5); have k2_w5 := pRow_c2 m_w5.out; have k3_w5 := pRow_c3 m_w5.out; have f_w5 := World.rowIs.frozen m_w5.out 3; have B5 := hid (bel_step (vn := vk2) B4.out F4.out.lt (World.rowIs.lt F4.out.row) (own_base F4.out.k) g_w5 3); have F5 := hid (F4.out.appK g_w5 o_w5 t_w5); obtain ⟨gk, ck, rfl⟩ := own_frm o_w5 (by omega); clear o_w5 t_w5; have hTc := (World.ownsRow.cellAt F5.out.t n (by omega)).trans (show _ = some (Value.int .i64 (tmTo s d n n : Int)) from by rw [rowT_zero]; exact range_get _ _ _ (by omega)); have hTf := World.ownsRow.frozenAt F5.out.t n))
        go_roundw
        case rel =>
          have F6 := F5.out.bump n (.int .i64 ((tmTo s d n n : Int) + 1))
          rw [rowT_zero, show (rowT s d n (n + 1)).set n (.int .i64 ((tmTo s d n n : Int) + 1)) = rowT s d (n + 1) (n + 1) from by have q := rowT_bump s d n (n + 1); rw [HFS.out] at q; exact q] at F6
          have F7 := F6
          rw [show rowP s d n ++ [Value.int .i64 P] = rowP s d (n + 1) from HRP.out, show rowF s d n ++ [Value.int .i64 (n : Int)] = rowF s d (n + 1) from HRF.out, show rowK (fun _ => false) n ++ [Value.bool false] = rowK (fun _ => false) (n + 1) from HRK.out] at F7
          have B6 := B5.out.setCell (p := ⟨gt, n, none⟩) (show b ≤ gt by have := own_base F5.out.t gt rfl; have := F5.out.lt; omega) (.int .i64 ((tmTo s d n n : Int) + 1))
          have hbe := HBE.out
          subst hbe
          first
            | exact ⟨n + 1, by omega, by go_num, ⟨_, _, _, _, F7⟩, B6⟩
            | ((repeat apply Exists.intro); exact ⟨⟨n + 1, by omega, by go_num, ⟨_, _, _, _, F7⟩, B6⟩, rfl⟩)
        case measure => simp [intOf]; omega
    · have HN := hid (show n = s.size - d + 1 from by omega)
      have hcond : decide ((n : Int) ≤ (s.size : Int) - (d : Int)) = false := by simp; omega
      obtain ⟨gp, cp, rfl⟩ := own_frm hF.p (by omega)
      obtain ⟨gf, cf, rfl⟩ := own_frm hF.f (by omega)
      obtain ⟨gt, ct, rfl⟩ := own_frm hF.t (by omega)
      obtain ⟨gk, ck, rfl⟩ := own_frm hF.k (by omega)
      have hq0 : wr.rowIs w.heap.size 96 4 (pRow nilS nilS nilS nilS) := World.rowIs.of_block r0 (hbel.block _ (by omega))
      have hrow := hF.row
      have HF := hid hF
      clear hF q0 q1 q2 q3 r0 r1
      go_wp2_with (first
        | (refine wpList_load_rowIs rfl 96 (.tmp 5) rfl b rfl 96 4 _ hrow _ Try.underlying96 rfl sizePcs ?_)
        | (refine wpList_store_rowIs rfl 96 (.tmp 4) (.tmp 58) rfl w.heap.size rfl 96 4 (pRow nilS nilS nilS nilS) _ hq0 rfl sizePcs (fun i _ => pRow_one i) ?_; intro w5 q5 b5 o5 s5))
      have hr := run_loadVar_rowIs (P := Try.prog) w5 w.heap.size 96 96 4 _ _ q5 Try.underlying96 rfl sizePcs
      refine bodyPost_ret (v := .agg (arrOf 4 (pRow (.slice (some ⟨gp, 0, none⟩) n cp) (.slice (some ⟨gf, 0, none⟩) n cf) (.slice (some ⟨gt, 0, none⟩) n ct) (.slice (some ⟨gk, 0, none⟩) n ck)))) ?_ rfl ⟨b, _, _, _, _, rfl, ?_, ?_⟩
      · simp [results, Try.results47, asAddr, Act.put, hr]
      · rw [← HN.out]
        have hbw := HBE.out
        have hF := HF.out
        have ho : ∀ k, w.heap.size + 2 ≤ k → w5.heap[k]? = wr.heap[k]? := fun k hk => o5 k (by omega)
        exact ⟨hF.lt, World.rowIs.of_block hF.row (o5 b (by omega)), own_blocks hF.p ho, own_blocks hF.f ho, own_blocks hF.t ho, own_blocks hF.k ho, hF.pf, hF.pt, hF.pk, hF.ft, hF.fk, hF.tk⟩
      · exact (bel0.trans (hbel.mono (by have := HBE.out; omega))).trans b5
end Go.Proofs.Ytnconbpneimjiaa

/-! ###  P7: the walks of Make, coverErrno, Cover. -/
namespace Go.Proofs.Ytnconbpneimjiaa
open Go.RowKit Go.PlainAid

theorem own_o {w w' : World} {B e b : Nat} {v : Value} {n : Nat} {xs : List Value} (h : w.ownsRow B e 1 v n xs) (hb : w.heap.size ≤ b) (ho : ∀ k, k ≠ b → w'.heap[k]? = w.heap[k]?) : w'.ownsRow B e 1 v n xs := by
  have hl := h.lt
  refine ⟨h.1, ?_⟩
  rcases h.2 with h2 | ⟨g, cap, cur, rfl, hg, hgb, r⟩
  · exact .inl h2
  · have := (hl g rfl).2
    exact .inr ⟨g, cap, cur, rfl, hg, by rw [ho g (by omega)]; exact hgb, r⟩

/-! ### The content, step by step -/
theorem covF_none {s : ByteArray} {k d N B f : Nat} {tk : Nat → Bool} {c : ByteArray} (h : c.size < B) (h0 : (bsTo s d N tk (k - d + 1) (s.size - k + 1)).2 = 0) : covF s k d N B (f + 1) tk c = c := by
  rw [covF, if_pos h, if_pos h0]
theorem covF_some {s : ByteArray} {k d N B f : Nat} {tk : Nat → Bool} {c : ByteArray} (h : c.size < B) (h0 : ¬ (bsTo s d N tk (k - d + 1) (s.size - k + 1)).2 = 0) :
    covF s k d N B (f + 1) tk c = covF s k d N B f (tkTo s d tk (bsTo s d N tk (k - d + 1) (s.size - k + 1)).1 (k - d + 1)) (s.extract (bsTo s d N tk (k - d + 1) (s.size - k + 1)).1 ((bsTo s d N tk (k - d + 1) (s.size - k + 1)).1 + k) ++ c) := by
  rw [covF, if_pos h, if_neg h0]
theorem covF_full {s : ByteArray} {k d N B f : Nat} {tk : Nat → Bool} {c : ByteArray} (h : B ≤ c.size) : covF s k d N B (f + 1) tk c = lastN c B := by
  rw [covF, if_neg (by omega)]

set_option maxRecDepth 100000 in
set_option maxHeartbeats 1600000 in
theorem make_any (s : ByteArray) (k d B : Nat) (w : World) (hs : s.size ≤ 800) (hd : 1 ≤ d) (hk : d ≤ k) (hks : k ≤ s.size) (hkB : k ≤ B) (hB : B ≤ 500) :
    Calls Try.prog 35 #[.string s, .int .i64 k, .int .i64 d, .int .i64 B] w fun e w' => e = .returned (.string (cov s k d B)) ∧ Below w.heap.size w w' := by
  have c1 : decide ((d : Int) < 1) = false := by simp; omega
  have c2 : decide ((k : Int) < (d : Int)) = false := by simp; omega
  have c3 : decide ((s.size : Int) < (k : Int)) = false := by simp; omega
  have HF := hid (find_any s d w hs hd (by omega))
  obtain ⟨N, hN⟩ : ∃ N, N = s.size - d + 1 := ⟨_, rfl⟩
  obtain ⟨x, hx⟩ : ∃ x, x = k - d + 1 := ⟨_, rfl⟩
  have HC := hid (show cov s k d B = covF s k d N B (B + 1) (fun _ => false) ⟨#[]⟩ from by rw [hN]; rfl)
  rw [← hN] at HF
  have hxk : (k : Int) - (d : Int) + 1 = (x : Int) := by omega
  have HNW := hid (show N - x + 1 = s.size - k + 1 from by omega)
  have HX := hid hx
  have hxN : x ≤ N := by omega
  have hN8 : N ≤ 800 := by omega
  have hN1 : 1 ≤ N := by omega
  have HNx := hid (show N = s.size - k + x from by omega)
  generalize cov s k d B = CV at *
  clear hN hx
  go_enter Try.func35, Try.ntmps35
  go_wp2_with fail
  refine Calls.mono HF.out ?_
  rintro e w1 ⟨b, vp, vf, vt, vk, rfl, F1, b1⟩
  obtain ⟨gp, cp, rfl⟩ := own_frm F1.p hN1
  obtain ⟨gf, cf, rfl⟩ := own_frm F1.f hN1
  obtain ⟨gt, ct, rfl⟩ := own_frm F1.t hN1
  obtain ⟨gq, ck, rfl⟩ := own_frm F1.k hN1
  have hq := pRow_new w1
  go_wp2_with (refine wpList_store_rowIs rfl 96 (.tmp 9) (.tmp 29) rfl w1.heap.size rfl 96 4 (pRow nilS nilS nilS nilS) (pRow (.slice (some ⟨gp, 0, none⟩) N cp) (.slice (some ⟨gf, 0, none⟩) N cf) (.slice (some ⟨gt, 0, none⟩) N ct) (.slice (some ⟨gq, 0, none⟩) N ck)) hq rfl sizePcs (fun i _ => pRow_one i) ?_; intro w2 q2 b2 o2 s2)
  have ap : ∀ {a n c a' n' c' : Nat}, apart (.slice (some ⟨a, 0, none⟩) n c) (.slice (some ⟨a', 0, none⟩) n' c') → a ≠ a' := by
    intro a n c a' n' c' h
    rcases h with h | h
    · simp [Value.ownBlock] at h
    · simpa [Value.ownBlock] using h
  have ok : ∀ {e : Nat} {v : Value} {n : Nat} {xs : List Value}, w1.ownsRow (w.heap.size + 2) e 1 v n xs → w2.ownsRow (w.heap.size + 2) e 1 v n xs := by
    intro e v n xs h
    have ho : ∀ k, k ≠ w1.heap.size → w2.heap[k]? = (w1.alloc (.cells #[.slice none 0 0, .slice none 0 0, .slice none 0 0, .slice none 0 0] 96)).heap[k]? := o2
    have hl := h.lt
    refine ⟨h.1, ?_⟩
    rcases h.2 with h2 | ⟨g, cap, cur, rfl, hg, hgb, r⟩
    · exact .inl h2
    · have := (hl g rfl).2
      exact .inr ⟨g, cap, cur, rfl, hg, by rw [ho g (by omega), Below.heap_alloc _ _ _ this]; exact hgb, r⟩
  have P2 : Pcs w2 w1.heap.size (w.heap.size + 2) N s d (fun _ => false) gp cp gf cf gt ct gq ck :=
    ⟨q2, ok F1.p, ok F1.f, ok F1.t, ok F1.k, ap F1.pk, ap F1.fk, ap F1.tk, by have := (F1.k.lt gq rfl).2; omega⟩
  have bel2 : Below w.heap.size w w2 := (b1.alloc b1.size _).trans (b2.mono b1.size)
  have hw1 := b1.size
  obtain ⟨b9, hb9⟩ : ∃ b9, b9 = w1.heap.size := ⟨_, rfl⟩
  rw [← hb9] at P2 ⊢
  clear F1 hq ap ok q2 b2 o2 s2 HF hb9 hw1 b1
  go_loopg [11, 12, 13] (B + 1) (fun gh c _ _ wr => ∃ (tk : Nat → Bool) (cc : ByteArray), c = .string cc ∧ Pcs wr b9 (w.heap.size + 2) N s d tk gp cp gf cf gt ct gq ck ∧ Below w.heap.size w wr ∧ ((cc.size < B ∧ B - cc.size < gh ∧ CV = covF s k d N B gh tk cc) ∨ (cc.size = B ∧ CV = cc)))
  case atStart => exact ⟨fun _ => false, ⟨#[]⟩, rfl, P2, bel2, .inl ⟨by show 0 < B; omega, by show B - 0 < B + 1; omega, HC.out⟩⟩
  case round =>
    obtain ⟨tk, cc, rfl, hP, hbel, hst⟩ := hrel
    rcases hst with ⟨h1, h2, h3⟩ | ⟨h1, h3⟩
    · obtain ⟨f, hf⟩ : ∃ f, gk = f + 1 := ⟨gk - 1, by omega⟩
      subst hf
      have hcall := hid (best_any s d N tk b9 (w.heap.size + 2) gp cp gf cf gt ct gq ck x wr hP hN8 hxN)
      rw [HNW.out] at hcall
      have hat := bsTo_lt s d N tk x (s.size - k + 1) (by omega)
      have hm := bsTo_le s d N tk x (s.size - k + 1)
      have hxN2 : x * N ≤ 800 * 800 := Nat.mul_le_mul (by omega) (by omega)
      have H3 := hid h3
      have HCN := hid (covF_none (s := s) (k := k) (d := d) (N := N) (f := f) (tk := tk) h1)
      have HCS := hid (covF_some (s := s) (k := k) (d := d) (N := N) (f := f) (tk := tk) h1)
      rw [← HX.out] at HCN HCS
      clear h3
      generalize bsTo s d N tk x (s.size - k + 1) = q at *
      obtain ⟨a, m⟩ := q
      simp only at hcall hat hm HCN HCS
      have h1' : (cc.size : Int) < (B : Int) := by omega
      by_cases c0 : m = 0
      · have HE := hid (show CV = cc from by rw [H3.out]; exact HCN.out c0)
        have c0' : ((m : Int) == 0) = true := by simp [c0]
        clear c0
        go_wp2_with (go_at_call 48; refine Calls.mono hcall.out ?_; rintro e w' ⟨rfl, rfl⟩)
        go_ret
        exact ⟨ret_s HE.out.symm, hbel⟩
      · have c0' : ((m : Int) == 0) = false := beq_eq_false_iff_ne.2 (by omega)
        have HE := hid (H3.out.trans (HCS.out c0))
        have htake := hid (take_any s d N tk b9 (w.heap.size + 2) gp cp gf cf gt ct gq ck a x wr hP hN8 (by have := HNx.out; omega))
        have hak : a + k ≤ s.size := by omega
        have hwin : (s.extract a (a + k)).size = k := by rw [ext_size _ _ _ hak]; omega
        obtain ⟨r, hr⟩ : ∃ r : Nat, (B : Int) - (cc.size : Int) = (r : Int) := ⟨B - cc.size, by omega⟩
        have hlast := hid (fun w => lastB_any (s.extract a (a + k)) r w (by omega) (by omega))
        have hrB : r = B - cc.size := by omega
        have hlsz : (lastN (s.extract a (a + k)) r).size ≤ k := by
          unfold lastN; rw [ext_size _ _ _ (Nat.le_refl _)]; omega
        have HNEW := hid (show (if k + cc.size < B then lastN (s.extract a (a + k)) r ++ cc = s.extract a (a + k) ++ cc ∧ (lastN (s.extract a (a + k)) r ++ cc).size = k + cc.size else lastN (s.extract a (a + k)) r ++ cc = lastN (s.extract a (a + k) ++ cc) B ∧ (lastN (s.extract a (a + k)) r ++ cc).size = B) from by
          split
          · have e : lastN (s.extract a (a + k)) r = s.extract a (a + k) := lastN_all (by omega)
            rw [e]
            exact ⟨rfl, by rw [ByteArray.size_append, hwin]⟩
          · have e := lastN_app (s.extract a (a + k)) cc (n := B) (by omega) (by omega)
            rw [← hrB] at e
            refine ⟨e.symm, ?_⟩
            rw [ByteArray.size_append, lastN_size _ (by omega)]; omega)
        have hccB : cc.size ≤ 500 := by omega
        have hrx : (r : Int) ≤ 500 := by omega
        clear hrB H3 HCN HCS hP c0
        generalize hLX : lastN (s.extract a (a + k)) r = LX at *
        clear hLX
        go_wp2_with (first
          | (go_at_call 48; refine Calls.mono hcall.out ?_; rintro e w' ⟨rfl, rfl⟩)
          | (go_at_call 49; refine Calls.mono htake.out ?_; rintro e w3 ⟨rfl, P3, b3⟩)
          | (go_at_call 50; refine Calls.mono (hlast.out _) ?_; rintro e w' ⟨rfl, rfl⟩))
        go_roundg f
        case measure => omega
        case rel =>
          have hn := HNEW.out
          have he := HE.out
          have hbel3 := hbel.trans (b3.mono (by omega))
          by_cases cB : k + cc.size < B
          · rw [if_pos cB] at hn
            exact ⟨tkTo s d tk a x, _, rfl, P3, hbel3, .inl ⟨by rw [hn.2]; exact cB, by rw [hn.2]; omega, by rw [hn.1]; exact he⟩⟩
          · rw [if_neg cB] at hn
            obtain ⟨f2, rfl⟩ : ∃ f2, f = f2 + 1 := ⟨f - 1, by omega⟩
            exact ⟨tkTo s d tk a x, _, rfl, P3, hbel3, .inr ⟨hn.2, by rw [hn.1, he]; exact covF_full (by rw [ByteArray.size_append, hwin]; omega)⟩⟩
    · have HE := hid h3
      have h1' : decide ((cc.size : Int) < (B : Int)) = false := by simp; omega
      clear h3
      go_wp2
      go_ret
      exact ⟨ret_s HE.out.symm, hbel⟩
end Go.Proofs.Ytnconbpneimjiaa

/-! ###  P7: the walks of coverErrno and Cover. -/
namespace Go.Proofs.Ytnconbpneimjiaa
open Go.RowKit Go.PlainAid

theorem covErr_long {s : ByteArray} {k d B : Int} (h : 800 < s.size) : covErr s k d B = 1 := by unfold covErr; rw [if_pos h]
theorem covErr_par {s : ByteArray} {k d B : Int} (h : ¬ 800 < s.size) (h2 : d < 1 ∨ k < d ∨ B < k ∨ 500 < B ∨ (s.size : Int) < k) : covErr s k d B = 2 := by unfold covErr; rw [if_neg h, if_pos h2]
theorem covErr_ok {s : ByteArray} {k d B : Int} (h : ¬ 800 < s.size) (h2 : ¬ (d < 1 ∨ k < d ∨ B < k ∨ 500 < B ∨ (s.size : Int) < k)) : covErr s k d B = 0 := by unfold covErr; rw [if_neg h, if_neg h2]

set_option maxHeartbeats 800000 in
theorem coverErrno_any (s : ByteArray) (k d B : Int) (w : World) (_hs : s.size ≤ maxLen) :
    Calls Try.prog 34 #[.string s, .int .i64 k, .int .i64 d, .int .i64 B] w fun e w' => e = .returned (.int .i64 (covErr s k d B)) ∧ w' = w := by
  by_cases c0 : 800 < s.size
  · have c0' : (800 : Int) < (s.size : Int) := by omega
    have HA := hid (covErr_long (k := k) (d := d) (B := B) c0)
    unfold maxLen at _hs
    go_enter Try.func34, Try.ntmps34
    go_wp2
    go_ret
    exact ⟨ret_int HA.out.symm, rfl⟩
  · have c0' : ¬ (800 : Int) < (s.size : Int) := by omega
    by_cases c1 : d < 1
    · have HA := hid (covErr_par (k := k) (d := d) (B := B) c0 (by omega))
      have c1' : decide (d < 1) = true := by simp; omega
      go_enter Try.func34, Try.ntmps34
      go_wp2
      go_ret
      exact ⟨ret_int HA.out.symm, rfl⟩
    · have c1' : decide (d < 1) = false := by simp; omega
      by_cases c2 : k < d
      · have HA := hid (covErr_par (k := k) (d := d) (B := B) c0 (by omega))
        have c2' : decide (k < d) = true := by simp; omega
        go_enter Try.func34, Try.ntmps34
        go_wp2
        go_ret
        exact ⟨ret_int HA.out.symm, rfl⟩
      · have c2' : decide (k < d) = false := by simp; omega
        by_cases c3 : B < k
        · have HA := hid (covErr_par (k := k) (d := d) (B := B) c0 (by omega))
          have c3' : decide (B < k) = true := by simp; omega
          go_enter Try.func34, Try.ntmps34
          go_wp2
          go_ret
          exact ⟨ret_int HA.out.symm, rfl⟩
        · have c3' : decide (B < k) = false := by simp; omega
          by_cases c4 : 500 < B
          · have HA := hid (covErr_par (k := k) (d := d) (B := B) c0 (by omega))
            have c4' : decide (500 < B) = true := by simp; omega
            go_enter Try.func34, Try.ntmps34
            go_wp2
            go_ret
            exact ⟨ret_int HA.out.symm, rfl⟩
          · have c4' : decide (500 < B) = false := by simp; omega
            by_cases c5 : (s.size : Int) < k
            · have HA := hid (covErr_par (k := k) (d := d) (B := B) c0 (by omega))
              have c5' : decide ((s.size : Int) < k) = true := by simp; omega
              go_enter Try.func34, Try.ntmps34
              go_wp2
              go_ret
              exact ⟨ret_int HA.out.symm, rfl⟩
            · have c5' : decide ((s.size : Int) < k) = false := by simp; omega
              have HA := hid (covErr_ok (k := k) (d := d) (B := B) c0 (by omega))
              go_enter Try.func34, Try.ntmps34
              go_wp2
              go_ret
              exact ⟨ret_int HA.out.symm, rfl⟩

theorem covAns_no {s : ByteArray} {k d B : Int} (h : covErr s k d B ≠ 0) : covAns s k d B = (⟨#[]⟩, covErr s k d B) := by unfold covAns; rw [if_neg h]
theorem covAns_yes {s : ByteArray} {k d B : Int} (h : covErr s k d B = 0) : covAns s k d B = (cov s k.toNat d.toNat B.toNat, 0) := by unfold covAns; rw [if_pos h]
theorem covErr_zero {s : ByteArray} {k d B : Int} (h : covErr s k d B = 0) : s.size ≤ 800 ∧ 1 ≤ d ∧ d ≤ k ∧ k ≤ B ∧ B ≤ 500 ∧ k ≤ (s.size : Int) := by
  unfold covErr at h
  split at h
  · simp at h
  · split at h
    · simp at h
    · omega
/-- Make, with numbers as they come. -/
theorem make_int (s : ByteArray) (k d B : Int) (w : World) (h : covErr s k d B = 0) :
    Calls Try.prog 35 #[.string s, .int .i64 k, .int .i64 d, .int .i64 B] w fun e w' => e = .returned (.string (cov s k.toNat d.toNat B.toNat)) ∧ Below w.heap.size w w' := by
  obtain ⟨h1, h2, h3, h4, h5, h6⟩ := covErr_zero h
  obtain ⟨k', rfl⟩ := Int.eq_ofNat_of_zero_le (show 0 ≤ k by omega)
  obtain ⟨d', rfl⟩ := Int.eq_ofNat_of_zero_le (show 0 ≤ d by omega)
  obtain ⟨B', rfl⟩ := Int.eq_ofNat_of_zero_le (show 0 ≤ B by omega)
  simp only [Int.toNat_natCast]
  exact make_any s k' d' B' w h1 (by omega) (by omega) (by omega) (by omega) (by omega)

end Go.Proofs.Ytnconbpneimjiaa

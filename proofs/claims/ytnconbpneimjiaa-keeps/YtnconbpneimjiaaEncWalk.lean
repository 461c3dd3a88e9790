/-
  P11: the walks of frames.writeHead, frames.Write, Encode.
  P11: the walk of Encode.
-/
import Derived.Test.YtnconbpneimjiaaBodWrite
import Derived.Test.YtnconbpneimjiaaFileParse
import Derived.Test.YtnconbpneimjiaaFrmBack
import Derived.Test.YtnconbpneimjiaaFrmAux
import Derived.Deep.RegionHeld3
namespace Go.Proofs.Ytnconbpneimjiaa
open Go.RowKit Go.PlainAid

/-! ### P11: the walks of frames.writeHead, frames.Write, Encode. -/
/-- What a file says lies in block b. -/
structure FlAt (w : World) (b : Nat) (i : Int) (t c : ByteArray) (s : Int) : Prop where
  lt : b < w.heap.size
  c0 : w.cell? ⟨b, 0, none⟩ = some (.int .i64 i)
  c1 : w.cell? ⟨b, 1, none⟩ = some (.string t)
  c2 : w.cell? ⟨b, 2, none⟩ = some (.string c)
  c3 : w.cell? ⟨b, 3, none⟩ = some (.int .i64 s)
theorem FlAt.below {w w' : World} {b B : Nat} {i : Int} {t c : ByteArray} {s : Int} (h : FlAt w b i t c s) (hb : Below B w w') (hB : b < B) : FlAt w' b i t c s where
  lt := Nat.lt_of_lt_of_le h.lt hb.size
  c0 := (hb.cell (p := ⟨b, 0, none⟩) hB).trans h.c0
  c1 := (hb.cell (p := ⟨b, 1, none⟩) hB).trans h.c1
  c2 := (hb.cell (p := ⟨b, 2, none⟩) hB).trans h.c2
  c3 := (hb.cell (p := ⟨b, 3, none⟩) hB).trans h.c3
/-- A frame's head, as it is written. -/
def hdW (how id s : Nat) (r : ByteArray) : ByteArray := ⟨#[70]⟩ ++ le how 1 ++ le id 2 ++ le s 4 ++ le r.size 2 ++ le (wSum r) 4
theorem hdW_size (how id s : Nat) (r : ByteArray) : (hdW how id s r).size = 14 := by
  have o : (⟨#[70]⟩ : ByteArray).size = 1 := rfl
  unfold hdW
  simp only [ByteArray.size_append, le_size, o]

set_option maxRecDepth 100000 in
set_option maxHeartbeats 800000 in
theorem whead_any (how id s b : Nat) (t c r : ByteArray) (w : World) (h : FlAt w b (id : Int) t c (s : Int)) (hh : how ≤ 1) (hi : id ≤ 65535) (hs : s < 4294967296) (hr : r.size ≤ 500) :
    Calls Try.prog 61 #[.pointer (some ⟨b, 0, none⟩), .string r, .int .i64 (how : Int)] w fun e w' => e = .returned (.string (hdW how id s r)) ∧ Below w.heap.size w w' := by
  have HD := hid (show hdW how id s r = ⟨#[70]⟩ ++ le how 1 ++ le id 2 ++ le s 4 ++ le r.size 2 ++ le (wSum r) 4 from rfl)
  have k1 := hid (fun w => wnum_any how 1 w (by omega) (by omega))
  have k2 := hid (fun w => wnum_any id 2 w (by omega) (by omega))
  have k3 := hid (fun w => wnum_any s 4 w (by omega) (by omega))
  have k4 := hid (fun w => wnum_any r.size 2 w (by omega) (by omega))
  have k5 := hid (fun w => ofW_any r w (by unfold maxLen; omega))
  have k6 := hid (fun w => wnum_any (wSum r) 4 w (wSum_lt r) (by omega))
  have hws := wSum_lt r
  have e1 : (le how 1).size = 1 := le_size _ _
  have e2 : (le id 2).size = 2 := le_size _ _
  have e3 : (le s 4).size = 4 := le_size _ _
  have e4 : (le r.size 2).size = 2 := le_size _ _
  have e5 : (le (wSum r) 4).size = 4 := le_size _ _
  have o : (⟨#[70]⟩ : ByteArray).size = 1 := rfl
  rw [HD.out]
  clear HD
  generalize wSum r = S at *
  generalize le how 1 = L1 at *
  generalize le id 2 = L2 at *
  generalize le s 4 = L3 at *
  generalize le r.size 2 = L4 at *
  generalize le S 4 = L5 at *
  go_enter Try.func61, Try.ntmps61
  go_wp2_with fail
  refine Calls.mono (k1.out _) ?_
  rintro e w1 ⟨rfl, b1⟩
  have h1 := h.below b1 h.lt
  have c0 := h1.c0
  go_wp2_with fail
  refine Calls.mono (k2.out _) ?_
  rintro e w2 ⟨rfl, b2⟩
  have h2 := h1.below b2 h1.lt
  have c3 := h2.c3
  go_wp2_with fail
  refine Calls.mono (k3.out _) ?_
  rintro e w3 ⟨rfl, b3⟩
  go_wp2_with fail
  refine Calls.mono (k4.out _) ?_
  rintro e w4 ⟨rfl, b4⟩
  go_wp2_with fail
  refine Calls.mono (k5.out _) ?_
  rintro e w5 ⟨rfl, q5⟩
  rw [q5]
  clear q5 w5
  go_wp2_with fail
  refine Calls.mono (k6.out _) ?_
  rintro e w6 ⟨rfl, b6⟩
  go_wp2
  go_ret
  have B2 := b1.trans (b2.mono b1.size)
  have B3 := B2.trans (b3.mono B2.size)
  have B4 := B3.trans (b4.mono B3.size)
  exact ⟨rfl, B4.trans (b6.mono B4.size)⟩

/-- A frame, as it is written. -/
def frW (id s : Nat) (t c r : ByteArray) : ByteArray := if (enBody t c r).size < r.size then hdW 1 id s r ++ enBody t c r else hdW 0 id s r ++ r
set_option maxRecDepth 100000 in
set_option maxHeartbeats 1600000 in
theorem fwrite_any (id s b : Nat) (t c r : ByteArray) (w : World) (h : FlAt w b (id : Int) t c (s : Int)) (hi : id ≤ 65535) (hs : s < 4294967296) (ht : t.size ≤ maxLen) (hc : c.size ≤ 500) (hr : r.size ≤ 500) :
    Calls Try.prog 52 #[.pointer (some ⟨b, 0, none⟩), .string r] w fun e w' => e = .returned (.string (frW id s t c r)) ∧ Below w.heap.size w w' := by
  have HF := hid (show frW id s t c r = if (enBody t c r).size < r.size then hdW 1 id s r ++ enBody t c r else hdW 0 id s r ++ r from rfl)
  have KB := hid (fun w => body_any t c r w ht hc hr)
  have hbz := enBody_size t c r hr
  have K0 := hid (fun w h => whead_any 0 id s b t c r w h (by omega) hi hs hr)
  have K1 := hid (fun w h => whead_any 1 id s b t c r w h (by omega) hi hs hr)
  have z0 := hdW_size 0 id s r
  have z1 := hdW_size 1 id s r
  have c1 := h.c1
  have c2 := h.c2
  have hb := h.lt
  rw [HF.out]
  clear HF
  generalize enBody t c r = BD at *
  generalize hdW 0 id s r = H0 at *
  generalize hdW 1 id s r = H1 at *
  by_cases hlt : BD.size < r.size
  · rw [if_pos hlt]
    have hlt' : (BD.size : Int) < (r.size : Int) := by omega
    go_enter Try.func52, Try.ntmps52
    go_wp2_with fail
    go_region_held3 (fun w' => w'.cell? ⟨b, 1, none⟩ = some (.string t) ∧ w'.cell? ⟨b, 2, none⟩ = some (.string c)) (first | go_keep | (refine ⟨?_, ?_⟩ <;> assumption) | assumption) (first | (go_at_call 60; refine (KB.out _).mono ?_; rintro e w1 ⟨rfl, b1⟩; have k1 : w1.cell? ⟨b, 1, none⟩ = some (.string t) := (b1.cell (p := ⟨b, 1, none⟩) hb).trans c1; have k2 : w1.cell? ⟨b, 2, none⟩ = some (.string c) := (b1.cell (p := ⟨b, 2, none⟩) hb).trans c2))
    have b1' : Below w.heap.size w w1 := (Below.drew (Below.refl _ _)).trans b1
    have h1 := h.below b1' hb
    have KH := hid (K1.out _ h1)
    go_wp2_with fail
    refine Calls.mono KH.out ?_
    rintro e w2 ⟨rfl, b2⟩
    go_wp2
    go_ret
    exact ⟨rfl, b1'.trans (b2.mono b1'.size)⟩
  · rw [if_neg hlt]
    have hlt' : ¬ (BD.size : Int) < (r.size : Int) := by omega
    go_enter Try.func52, Try.ntmps52
    go_wp2_with fail
    go_region_held3 (fun w' => w'.cell? ⟨b, 1, none⟩ = some (.string t) ∧ w'.cell? ⟨b, 2, none⟩ = some (.string c)) (first | go_keep | (refine ⟨?_, ?_⟩ <;> assumption) | assumption) (first | (go_at_call 60; refine (KB.out _).mono ?_; rintro e w1 ⟨rfl, b1⟩; have k1 : w1.cell? ⟨b, 1, none⟩ = some (.string t) := (b1.cell (p := ⟨b, 1, none⟩) hb).trans c1; have k2 : w1.cell? ⟨b, 2, none⟩ = some (.string c) := (b1.cell (p := ⟨b, 2, none⟩) hb).trans c2))
    have b1' : Below w.heap.size w w1 := (Below.drew (Below.refl _ _)).trans b1
    have h1 := h.below b1' hb
    have KH := hid (K0.out _ h1)
    go_wp2_with fail
    refine Calls.mono KH.out ?_
    rintro e w2 ⟨rfl, b2⟩
    go_wp2
    go_ret
    exact ⟨rfl, b1'.trans (b2.mono b1'.size)⟩

/-! ### P11: the walk of Encode. -/
theorem FlAt.of_row {w : World} {b : Nat} {i : Int} {t c : ByteArray} {s : Int} (h : w.rowIs b 48 4 (fRow i t c s)) : FlAt w b i t c s where
  lt := World.rowIs.lt h
  c0 := World.rowIs.cell h (i := 0) (by omega)
  c1 := World.rowIs.cell h (i := 1) (by omega)
  c2 := World.rowIs.cell h (i := 2) (by omega)
  c3 := World.rowIs.cell h (i := 3) (by omega)
theorem mark_one : (⟨#[70]⟩ : ByteArray) ++ le 1 1 = ⟨#[70, 1]⟩ := by decide
theorem mark_zero : (⟨#[70]⟩ : ByteArray) ++ le 0 1 = ⟨#[70, 0]⟩ := by decide
theorem sum_tail {f : ByteArray} (h : pOk f) : le (wSum (f.extract 0 (pE f))) 4 = f.extract (f.size - 4) f.size := by
  obtain ⟨_, _, _, _, _, h6, h7⟩ := h
  rw [← h7, le_num f (pE f) 4 (by omega), show f.size - 4 = pE f from by omega, show pE f + 4 = f.size from by omega]
theorem frW_is {f : ByteArray} (h : pOk f) (r : ByteArray) : frW (num f 3 2) (wSum (f.extract 0 (pE f))) (pAns f).2.1 (pAns f).2.2.1 r = enFrm f r := by
  unfold frW enFrm hdW enRest
  rw [mark_one, mark_zero, sum_tail h]
  simp only [ByteArray.append_assoc]

end Go.Proofs.Ytnconbpneimjiaa

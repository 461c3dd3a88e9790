/-
  P5, P6: the walks of a layout's methods.
-/
import Derived.Test.YtaofgdgfmdieeaaStrTab
import Derived.Test.YtaofgdgfmdieeaaPlain
import Derived.Deep.MidRow
import Derived.Deep.WholeRow
namespace Go.Proofs.Ytaofgdgfmdieeaa
open Go.RowKit Go.PlainAid

/-- The cells of a layout. -/
def layRow (own num shr : Nat → Nat) : Nat → Value := fun i => if i < 64 then .int .u8 (own i : Int) else if i < 128 then .int .i64 (num (i - 64) : Int) else .int .i64 (shr (i - 128) : Int)
/-- A layout lies in block b. -/
def Lyt (w : World) (b : Nat) (own num shr : Nat → Nat) : Prop := w.rowIs b 61 384 (layRow own num shr)

section
variable {w : World} {b : Nat} {own num shr : Nat → Nat}
theorem Lyt.ownC (h : Lyt w b own num shr) {s : Nat} (hs : s < 64) : w.cell? ⟨b, s, none⟩ = some (.int .u8 (own s : Int)) := by
  rw [World.rowIs.cell h (i := s) (by omega)]; simp [layRow, hs]
theorem Lyt.numC (h : Lyt w b own num shr) {s : Nat} (hs : s < 64) : w.cell? ⟨b, 64 + s, none⟩ = some (.int .i64 (num s : Int)) := by
  rw [World.rowIs.cell h (i := 64 + s) (by omega)]; simp only [layRow]
  rw [if_neg (by omega), if_pos (by omega), show 64 + s - 64 = s from by omega]
theorem Lyt.shrC (h : Lyt w b own num shr) {v : Nat} (hv : v < 256) : w.cell? ⟨b, 128 + v, none⟩ = some (.int .i64 (shr v : Int)) := by
  rw [World.rowIs.cell h (i := 128 + v) (by omega)]; simp only [layRow]
  rw [if_neg (by omega), if_neg (by omega), show 128 + v - 128 = v from by omega]
theorem Lyt.congr {own' num' shr' : Nat → Nat} (h : Lyt w b own num shr) (h1 : ∀ s, s < 64 → own s = own' s) (h2 : ∀ s, s < 64 → num s = num' s) (h3 : ∀ v, v < 256 → shr v = shr' v) : Lyt w b own' num' shr' := by
  refine World.rowIs.congr h fun i hi => ?_
  simp only [layRow]
  by_cases c1 : i < 64
  · rw [if_pos c1, if_pos c1, h1 i c1]
  · rw [if_neg c1, if_neg c1]
    by_cases c2 : i < 128
    · rw [if_pos c2, if_pos c2, h2 (i - 64) (by omega)]
    · rw [if_neg c2, if_neg c2, h3 (i - 128) (by omega)]
theorem Lyt.setOwn (h : Lyt w b own num shr) {s : Nat} (hs : s < 64) (x : Nat) : Lyt (w.setCell ⟨b, s, none⟩ (.int .u8 (x : Int))) b (fun j => if j = s then x else own j) num shr := by
  refine World.rowIs.congr (World.rowIs.set h s _) fun i hi => ?_
  simp only [layRow]
  by_cases c : i = s
  · subst c; simp [hs]
  · simp [c]
theorem Lyt.setNum (h : Lyt w b own num shr) {s : Nat} (hs : s < 64) (x : Nat) : Lyt (w.setCell ⟨b, 64 + s, none⟩ (.int .i64 (x : Int))) b own (fun j => if j = s then x else num j) shr := by
  refine World.rowIs.congr (World.rowIs.set h (64 + s) _) fun i hi => ?_
  simp only [layRow]
  by_cases c : i = 64 + s
  · subst c
    rw [if_pos rfl, if_neg (by omega), if_pos (by omega), if_pos (by omega)]
  · rw [if_neg c]
    by_cases c1 : i < 64
    · rw [if_pos c1, if_pos c1]
    · rw [if_neg c1, if_neg c1]
      by_cases c2 : i < 128
      · rw [if_pos c2, if_pos c2, if_neg (by omega)]
      · rw [if_neg c2, if_neg c2]
theorem Lyt.setShr (h : Lyt w b own num shr) {v : Nat} (hv : v < 256) (x : Nat) : Lyt (w.setCell ⟨b, 128 + v, none⟩ (.int .i64 (x : Int))) b own num (fun j => if j = v then x else shr j) := by
  refine World.rowIs.congr (World.rowIs.set h (128 + v) _) fun i hi => ?_
  simp only [layRow]
  by_cases c : i = 128 + v
  · subst c
    rw [if_pos rfl, if_neg (by omega), if_neg (by omega), if_pos (by omega)]
  · rw [if_neg c]
    by_cases c1 : i < 64
    · rw [if_pos c1, if_pos c1]
    · rw [if_neg c1, if_neg c1]
      by_cases c2 : i < 128
      · rw [if_pos c2, if_pos c2]
      · rw [if_neg c2, if_neg c2, if_neg (by omega)]
theorem Lyt.below {w' : World} {B : Nat} (h : Lyt w b own num shr) (hb : Below B w w') (hB : b < B) : Lyt w' b own num shr := World.rowIs.of_block h (hb.block b hB)
end

set_option maxRecDepth 100000 in
theorem share_any (b : Nat) (own num shr : Nat → Nat) (v : Nat) (w : World) (h : Lyt w b own num shr) (hv : v < 256) :
    Calls Try.prog 66 #[.pointer (some ⟨b, 0, none⟩), .int .u8 v] w fun e w' => e = .returned (.int .i64 (shr v : Int)) ∧ w' = w := by
  have h1 := h.shrC hv
  go_enter Try.func66, Try.ntmps66
  go_wp2
  go_ret
  exact ⟨rfl, rfl⟩
set_option maxRecDepth 100000 in
theorem owner_any (b : Nat) (own num shr : Nat → Nat) (s : Nat) (w : World) (h : Lyt w b own num shr) (hs : s < 64) :
    Calls Try.prog 73 #[.pointer (some ⟨b, 0, none⟩), .int .i64 s] w fun e w' => e = .returned (.int .u8 (own s : Int)) ∧ w' = w := by
  have h1 := h.ownC hs
  have c1 : decide ((s : Int) < 0) = false := by simp
  have c2 : decide ((64 : Int) ≤ (s : Int)) = false := by simp; omega
  go_enter Try.func73, Try.ntmps73
  go_wp2
  go_ret
  exact ⟨rfl, rfl⟩
set_option maxRecDepth 100000 in
theorem number_any (b : Nat) (own num shr : Nat → Nat) (s : Nat) (w : World) (h : Lyt w b own num shr) (hs : s < 64) :
    Calls Try.prog 74 #[.pointer (some ⟨b, 0, none⟩), .int .i64 s] w fun e w' => e = .returned (.int .i64 (num s : Int)) ∧ w' = w := by
  have h1 := h.numC hs
  have c1 : decide ((s : Int) < 0) = false := by simp
  have c2 : decide ((64 : Int) ≤ (s : Int)) = false := by simp; omega
  go_enter Try.func74, Try.ntmps74
  go_wp2
  go_ret
  exact ⟨rfl, rfl⟩
set_option maxRecDepth 100000 in
set_option maxHeartbeats 400000 in
theorem slot_any (b : Nat) (own num shr : Nat → Nat) (v m s : Nat) (w : World) (h : Lyt w b own num shr) (hs : s < 64) (h1 : own s = v) (h2 : num s = m) (hno : ∀ j, j < s → own j = v → num j ≠ m) :
    Calls Try.prog 67 #[.pointer (some ⟨b, 0, none⟩), .int .u8 v, .int .i64 m] w fun e w' => e = .returned (.int .i64 (s : Int)) ∧ w' = w := by
  have H1 := hid h1
  have H2 := hid h2
  have HN := hid hno
  clear h1 h2 hno
  go_enter Try.func67, Try.ntmps67
  go_wp2
  go_loop [7] (fun i => ∃ k : Nat, k ≤ s ∧ i = .int .i64 k) (fun i => 64 - (intOf i).toNat)
  case atStart => exact ⟨0, Nat.zero_le _, rfl⟩
  case round =>
    obtain ⟨k, hk, rfl⟩ := hrel
    have hk64 : k < 64 := by omega
    have g1 := h.ownC hk64
    have g2 := h.numC hk64
    by_cases c : k = s
    · have e1 : ((own k : Int) == (v : Int)) = true := by rw [c, H1.out]; simp
      have e2 : ((num k : Int) == (m : Int)) = true := by rw [c, H2.out]; simp
      have HC := hid c
      clear c
      go_wp2
      go_ret
      exact ⟨congrArg (fun q : Nat => Ending.returned (.int .i64 (q : Int))) HC.out, rfl⟩
    · by_cases d : own k = v
      · have e1 : ((own k : Int) == (v : Int)) = true := by simp [d]
        have e2 : ((num k : Int) == (m : Int)) = false := by
          have := HN.out k (by omega) d
          simp; omega
        clear d
        go_wp2
        go_round
        case rel => exact ⟨k + 1, by omega, by go_num⟩
        case measure => simp [intOf]; omega
      · have e1 : ((own k : Int) == (v : Int)) = false := by simp; omega
        clear d
        go_wp2
        go_round
        case rel => exact ⟨k + 1, by omega, by go_num⟩
        case measure => simp [intOf]; omega
end Go.Proofs.Ytaofgdgfmdieeaa

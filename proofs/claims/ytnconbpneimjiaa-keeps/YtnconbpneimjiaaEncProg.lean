/-
  P12: the walks of frames.ReadBody, Decode.
  P11, P12: the program's Encode (EncWalk) and Decode.
-/
import Derived.Test.YtnconbpneimjiaaHdWalk
import Derived.Test.YtnconbpneimjiaaEncWalk
import Derived.BigQuiet
namespace Go.Proofs.Ytnconbpneimjiaa
open Go.RowKit Go.PlainAid

/-! ### P12: the walks of frames.ReadBody, Decode. -/
/-- A head lies in block b. -/
structure HdAt (w : World) (b : Nat) (p : Bool) (i s z m : Int) : Prop where
  lt : b < w.heap.size
  c0 : w.cell? ⟨b, 0, none⟩ = some (.bool p)
  c1 : w.cell? ⟨b, 1, none⟩ = some (.int .i64 i)
  c2 : w.cell? ⟨b, 2, none⟩ = some (.int .i64 s)
  c3 : w.cell? ⟨b, 3, none⟩ = some (.int .i64 z)
  c4 : w.cell? ⟨b, 4, none⟩ = some (.int .i64 m)
theorem HdAt.below {w w' : World} {b B : Nat} {p : Bool} {i s z m : Int} (h : HdAt w b p i s z m) (hb : Below B w w') (hB : b < B) : HdAt w' b p i s z m where
  lt := Nat.lt_of_lt_of_le h.lt hb.size
  c0 := (hb.cell (p := ⟨b, 0, none⟩) hB).trans h.c0
  c1 := (hb.cell (p := ⟨b, 1, none⟩) hB).trans h.c1
  c2 := (hb.cell (p := ⟨b, 2, none⟩) hB).trans h.c2
  c3 := (hb.cell (p := ⟨b, 3, none⟩) hB).trans h.c3
  c4 := (hb.cell (p := ⟨b, 4, none⟩) hB).trans h.c4
theorem HdAt.of_row {w : World} {b : Nat} {p : Bool} {i s z m : Int} (h : w.rowIs b 82 5 (hRow p i s z m)) : HdAt w b p i s z m where
  lt := World.rowIs.lt h
  c0 := World.rowIs.cell h (i := 0) (by omega)
  c1 := World.rowIs.cell h (i := 1) (by omega)
  c2 := World.rowIs.cell h (i := 2) (by omega)
  c3 := World.rowIs.cell h (i := 3) (by omega)
  c4 := World.rowIs.cell h (i := 4) (by omega)

/-- The record of a frame's body, by its file's table and content. -/
def bdAns (t c g : ByteArray) (p : Bool) (z : Nat) : Option ByteArray := if p = true then rbAns t c (g.extract 14 g.size) z else if g.size = 14 + z then some (g.extract 14 g.size) else none

set_option maxRecDepth 100000 in
set_option maxHeartbeats 1600000 in
theorem rbody_any (t c g : ByteArray) (i s i2 s2 m : Int) (p : Bool) (z b1 b2 : Nat) (w : World) (hF : FlAt w b1 i t c s) (hH : HdAt w b2 p i2 s2 (z : Int) m) (ht : t.size ≤ maxLen) (hT : isTB t = true) (hc : c.size ≤ 500) (hg : g.size ≤ 1000) (h14 : 14 ≤ g.size) (hz : z ≤ 500) :
    Calls Try.prog 55 #[.pointer (some ⟨b1, 0, none⟩), .pointer (some ⟨b2, 0, none⟩), .string g] w fun e w' => e = .returned (optV (bdAns t c g p z)) ∧ Below w.heap.size w w' := by
  have d0 : decide ((g.size : Int) < 14) = false := by simp; omega
  have i14 : (14 : Int) ≤ (g.size : Int) := by omega
  have hgz : (g.extract 14 g.size).size = g.size - 14 := ext_size _ _ _ (Nat.le_refl _)
  have f1 := hF.c1
  have f2 := hF.c2
  have h0 := hH.c0
  have h3 := hH.c3
  have lf := hF.lt
  have lh := hH.lt
  cases p
  · have HB := hid (show bdAns t c g false z = if g.size = 14 + z then some (g.extract 14 g.size) else none from rfl)
    by_cases q : g.size = 14 + z
    · rw [if_pos q] at HB
      have q' : (((g.size - 14 : Nat) : Int) != (z : Int)) = false := by simp; omega
      rw [HB.out]
      clear q HB
      go_enter Try.func55, Try.ntmps55
      go_wp2
      go_ret2
      exact ⟨rfl, Below.refl _ _⟩
    · rw [if_neg q] at HB
      have q' : (((g.size - 14 : Nat) : Int) != (z : Int)) = true := by simp; omega
      rw [HB.out]
      clear q HB
      go_enter Try.func55, Try.ntmps55
      go_wp2
      go_ret2
      exact ⟨rfl, Below.refl _ _⟩
  · have HB := hid (show bdAns t c g true z = rbAns t c (g.extract 14 g.size) z from rfl)
    have KB := hid (fun w => bread_any t c (g.extract 14 g.size) z w ht hT hc (by omega) hz)
    rw [HB.out]
    clear HB
    generalize rbAns t c (g.extract 14 g.size) z = O at *
    cases O with
    | none =>
      simp only [optV] at KB ⊢
      go_enter Try.func55, Try.ntmps55
      go_wp2_with fail
      go_region_held3 (fun w' => w'.cell? ⟨b1, 1, none⟩ = some (.string t) ∧ w'.cell? ⟨b1, 2, none⟩ = some (.string c) ∧ w'.cell? ⟨b2, 3, none⟩ = some (.int .i64 (z : Int))) (first | go_keep | (refine ⟨?_, ?_, ?_⟩ <;> assumption) | assumption) (first | (go_at_call 63; refine (KB.out _).mono ?_; rintro e w1 ⟨rfl, b1'⟩; have k1 : w1.cell? ⟨b1, 1, none⟩ = some (.string t) := (b1'.cell (p := ⟨b1, 1, none⟩) lf).trans f1; have k2 : w1.cell? ⟨b1, 2, none⟩ = some (.string c) := (b1'.cell (p := ⟨b1, 2, none⟩) lf).trans f2; have k3 : w1.cell? ⟨b2, 3, none⟩ = some (.int .i64 (z : Int)) := (b1'.cell (p := ⟨b2, 3, none⟩) lh).trans h3))
      have b1'' : Below w.heap.size w w1 := (Below.drew (Below.refl _ _)).trans b1'
      go_wp2
      go_ret2
      exact ⟨rfl, b1''⟩
    | some r =>
      simp only [optV] at KB ⊢
      go_enter Try.func55, Try.ntmps55
      go_wp2_with fail
      go_region_held3 (fun w' => w'.cell? ⟨b1, 1, none⟩ = some (.string t) ∧ w'.cell? ⟨b1, 2, none⟩ = some (.string c) ∧ w'.cell? ⟨b2, 3, none⟩ = some (.int .i64 (z : Int))) (first | go_keep | (refine ⟨?_, ?_, ?_⟩ <;> assumption) | assumption) (first | (go_at_call 63; refine (KB.out _).mono ?_; rintro e w1 ⟨rfl, b1'⟩; have k1 : w1.cell? ⟨b1, 1, none⟩ = some (.string t) := (b1'.cell (p := ⟨b1, 1, none⟩) lf).trans f1; have k2 : w1.cell? ⟨b1, 2, none⟩ = some (.string c) := (b1'.cell (p := ⟨b1, 2, none⟩) lf).trans f2; have k3 : w1.cell? ⟨b2, 3, none⟩ = some (.int .i64 (z : Int)) := (b1'.cell (p := ⟨b2, 3, none⟩) lh).trans h3))
      have b1'' : Below w.heap.size w w1 := (Below.drew (Below.refl _ _)).trans b1'
      go_wp2
      go_ret2
      exact ⟨rfl, b1''⟩

theorem dcBody_is {f g : ByteArray} (hT : isTB (pAns f).2.1 = true) (hg : g.size ≤ 1000) (h14 : 14 ≤ g.size) (hz : num g 8 2 ≤ 500) : dcBody f g = bdAns (pAns f).2.1 (pAns f).2.2.1 g (decide (btn g 1 = 1)) (num g 8 2) := by
  unfold dcBody bdAns
  have hs : (g.extract 14 g.size).size ≤ 1000 := by rw [ext_size _ _ _ (Nat.le_refl _)]; omega
  by_cases h : btn g 1 = 1
  · rw [if_pos h, if_pos (show decide (btn g 1 = 1) = true from decide_eq_true h), rbAns_is hT hs hz]
  · rw [if_neg h, if_neg (show ¬ decide (btn g 1 = 1) = true from fun q => h (of_decide_eq_true q))]
theorem sum_eq {f g : ByteArray} (h : pOk f) (h14 : 14 ≤ g.size) : g.extract 4 8 = f.extract (f.size - 4) f.size ↔ num g 4 4 = wSum (f.extract 0 (pE f)) := by
  have hw := wSum_lt (f.extract 0 (pE f))
  rw [← sum_tail h, ← le_num g 4 4 (by omega)]
  constructor
  · intro q
    have e1 := num_le (num g 4 4) 4 (s := le (num g 4 4) 4) (a := 0) (fun i _ => by rw [Nat.zero_add]) (num_lt g 4 4)
    have e2 := num_le (wSum (f.extract 0 (pE f))) 4 (s := le (wSum (f.extract 0 (pE f))) 4) (a := 0) (fun i _ => by rw [Nat.zero_add]) hw
    rw [← e1, q, e2]
  · intro q; rw [q]
theorem dcAns_long {f g : ByteArray} (h : 1000 < g.size) : dcAns f g = (⟨#[]⟩, 1) := by unfold dcAns; rw [if_pos h]
theorem dcAns_file {f g : ByteArray} (h : ¬ 1000 < g.size) (h2 : ¬ pOk f) : dcAns f g = (⟨#[]⟩, 6) := by
  have : pOkB f = false := by
    cases hq : pOkB f
    · rfl
    · exact absurd ((pOkB_iff f).1 hq) h2
  unfold dcAns; rw [if_neg h, if_pos this]
theorem dcAns_rest {f g : ByteArray} (h : ¬ 1000 < g.size) (h2 : pOk f) : dcAns f g = (if hdB g = false then ((⟨#[]⟩, 7) : ByteArray × Int) else if num g 2 2 ≠ num f 3 2 then (⟨#[]⟩, 8)
  else if g.extract 4 8 ≠ f.extract (f.size - 4) f.size then (⟨#[]⟩, 9)
  else match dcBody f g with
    | none => (⟨#[]⟩, 7)
    | some r => if wSum r = num g 10 4 then (r, 0) else (⟨#[]⟩, 10)) := by
  unfold dcAns; rw [if_neg h, if_neg (by rw [(pOkB_iff f).2 h2]; simp)]
  rfl
theorem pOk_tab {f : ByteArray} (h : pOk f) : isTB (pAns f).2.1 = true := by rw [pAns_yes h]; exact h.2.2.1
theorem ret_ds {a b : ByteArray × Int} (h : a = b) : Ending.returned (.tuple #[.string a.1, .int .i64 a.2]) = .returned (.tuple #[.string b.1, .int .i64 b.2]) := by rw [h]

/-! ### P11, P12: the program's Encode (EncWalk) and Decode. -/
theorem pyEnd_size {n size : Nat} {o : Option (ByteArray × ByteArray)} {r : ByteArray} (h : pyEnd n size o = some r) : r.size = size := by
  cases o with
  | none => simp [pyEnd] at h
  | some q =>
    obtain ⟨a, l⟩ := q
    simp only [pyEnd] at h
    split at h
    · rename_i hs
      simp only [Option.some.injEq] at h
      rw [← h, ext_size _ _ _ (Nat.le_refl _)]; omega
    · simp at h
theorem rbAns_size {t c b r : ByteArray} {size : Nat} (h : rbAns t c b size = some r) : r.size = size := by
  unfold rbAns at h
  split at h
  · simp at h
  · split at h
    · simp at h
    · split at h
      · simp at h
      · split at h
        · exact pyEnd_size h
        · simp at h
theorem bdAns_size {t c g r : ByteArray} {p : Bool} {z : Nat} (_hg : g.size ≤ 1000) (hz : z ≤ 500) (h : bdAns t c g p z = some r) : r.size ≤ 1000 := by
  unfold bdAns at h
  split at h
  · rw [rbAns_size h]; omega
  · split at h
    · simp only [Option.some.injEq] at h
      rw [← h, ext_size _ _ _ (Nat.le_refl _)]; omega
    · simp at h

/-- What the opening of a frame answers, whose head names the file's id. -/
def opAns (t c g : ByteArray) (p : Bool) (z s2 s m : Nat) : ByteArray × Int :=
  if s2 ≠ s then (⟨#[]⟩, 9) else match bdAns t c g p z with
    | none => (⟨#[]⟩, 7)
    | some r => if wSum r = m then (r, 0) else (⟨#[]⟩, 10)
theorem dcAns_open {f g : ByteArray} (hl : ¬ 1000 < g.size) (h : pOk f) (hH : hdB g = true) (hi : num g 2 2 = num f 3 2) :
    dcAns f g = opAns (pAns f).2.1 (pAns f).2.2.1 g (decide (btn g 1 = 1)) (num g 8 2) (num g 4 4) (wSum (f.extract 0 (pE f))) (num g 10 4) := by
  obtain ⟨g1, g2, g3, g4⟩ : 14 ≤ g.size ∧ btn g 0 = 70 ∧ btn g 1 ≤ 1 ∧ num g 8 2 ≤ 500 := of_decide_eq_true hH
  have hS := sum_eq h g1
  rw [dcAns_rest hl h, if_neg (by rw [hH]; simp), if_neg (by simp [hi]), dcBody_is (pOk_tab h) (by omega) g1 g4]
  unfold opAns
  by_cases k : num g 4 4 = wSum (f.extract 0 (pE f))
  · rw [if_neg (fun q => q (hS.2 k)), if_neg (fun q => q k)]
  · rw [if_pos (fun q => k (hS.1 q)), if_pos k]

set_option maxRecDepth 100000 in
set_option maxHeartbeats 1600000 in
theorem open_any (t c g : ByteArray) (i i2 : Int) (p : Bool) (z s2 s m b1 b2 : Nat) (w : World) (hF : FlAt w b1 i t c (s : Int)) (hH : HdAt w b2 p i2 (s2 : Int) (z : Int) (m : Int)) (ht : t.size ≤ maxLen) (hT : isTB t = true) (hc : c.size ≤ 500) (hg : g.size ≤ 1000) (h14 : 14 ≤ g.size) (hz : z ≤ 500) (_hm : m < 4294967296) :
    Calls Try.prog 41 #[.pointer (some ⟨b1, 0, none⟩), .pointer (some ⟨b2, 0, none⟩), .string g] w fun e w' => e = .returned (.tuple #[.string (opAns t c g p z s2 s m).1, .int .i64 (opAns t c g p z s2 s m).2]) ∧ Below w.heap.size w w' := by
  have HA := hid (show opAns t c g p z s2 s m = if s2 ≠ s then ((⟨#[]⟩, 9) : ByteArray × Int) else match bdAns t c g p z with
    | none => (⟨#[]⟩, 7)
    | some r => if wSum r = m then (r, 0) else (⟨#[]⟩, 10) from rfl)
  have HRB := hid (fun q => rbody_any t c g i (s : Int) i2 (s2 : Int) (m : Int) p z b1 b2 (w.drewN q) (hF.below (Below.drewN (Below.refl _ _) q) hF.lt) (hH.below (Below.drewN (Below.refl _ _) q) hH.lt) ht hT hc hg h14 hz)
  have HHQ := hid (fun q => hH.below (Below.drewN (Below.refl w.heap.size w) q) hH.lt)
  have BQ := hid (fun q => Below.drewN (Below.refl w.heap.size w) q)
  have HBZ := hid (fun r => bdAns_size (t := t) (c := c) (g := g) (r := r) (p := p) (z := z) (by omega) hz)
  have f3 := hF.c3
  have h2 := hH.c2
  have lh := hH.lt
  have h4 := hH.c4
  generalize opAns t c g p z s2 s m = A at *
  generalize bdAns t c g p z = O at *
  clear hF ht hT hc h14
  by_cases k2 : s2 = s
  · rw [if_neg (fun q => q k2)] at HA
    have k2' : ((s2 : Int) != (s : Int)) = false := by simp [k2]
    clear k2
    cases O with
    | none =>
      simp only [optV] at HRB
      rw [HA.out]
      clear HA HBZ
      go_enter Try.func41, Try.ntmps41
      go_wp2_with fail
      go_quiet (fail)
      go_wp2_with fail
      refine Calls.mono (HRB.out _) ?_
      rintro e w8 ⟨rfl, b8⟩
      go_wp2
      go_ret2
      exact ⟨rfl, (BQ.out _).trans b8⟩
    | some r =>
      simp only [optV] at HRB
      have hrz := HBZ.out r rfl
      have HS := hid (fun w => ofW_any r w (by unfold maxLen; omega))
      have hwl := wSum_lt r
      simp only at HA
      clear HBZ
      generalize wSum r = W at *
      by_cases k3 : W = m
      · rw [if_pos k3] at HA
        have k3' : ((W : Int) != (m : Int)) = false := by simp [k3]
        rw [HA.out]
        clear HA k3
        go_enter Try.func41, Try.ntmps41
        go_wp2_with fail
        go_quiet (fail)
        go_wp2_with fail
        refine Calls.mono (HRB.out _) ?_
        rintro e w8 ⟨rfl, b8⟩
        have hH8 := hid ((HHQ.out _).below b8 lh)
        have c4 := hH8.out.c4
        go_wp2_with fail
        go_quiet (first | (go_at_call 32; exact Calls.quiet_of_same (HS.out _)))
        go_wp2
        go_ret2
        exact ⟨rfl, Below.drewN ((BQ.out _).trans b8) _⟩
      · rw [if_neg k3] at HA
        have k3' : ((W : Int) != (m : Int)) = true := by simp; omega
        rw [HA.out]
        clear HA k3
        go_enter Try.func41, Try.ntmps41
        go_wp2_with fail
        go_quiet (fail)
        go_wp2_with fail
        refine Calls.mono (HRB.out _) ?_
        rintro e w8 ⟨rfl, b8⟩
        have hH8 := hid ((HHQ.out _).below b8 lh)
        have c4 := hH8.out.c4
        go_wp2_with fail
        go_quiet (first | (go_at_call 32; exact Calls.quiet_of_same (HS.out _)))
        go_wp2
        go_ret2
        exact ⟨rfl, Below.drewN ((BQ.out _).trans b8) _⟩
  · rw [if_pos k2] at HA
    have k2' : ((s2 : Int) != (s : Int)) = true := by simp; omega
    rw [HA.out]
    clear HA k2 HRB HBZ HHQ
    go_enter Try.func41, Try.ntmps41
    go_wp2_with fail
    go_quiet (fail)
    go_wp2
    go_ret2
    exact ⟨rfl, BQ.out _⟩

end Go.Proofs.Ytnconbpneimjiaa

/-
  P13 to P15: the walk of Keeps' step.
-/
import Derived.Test.YtnconbpneimjiaaKeepPut
namespace Go.Proofs.Ytnconbpneimjiaa
open Go.RowKit Go.PlainAid

/-- Which of n things a raw number speaks of, over Int. -/
def pkI (c n : Int) : Int := (pk c n.toNat : Nat)
theorem pkI_any (c n : Int) (w : World) (h0 : -9223372036854775808 ≤ c) (h1 : c ≤ 9223372036854775807) (hn : 1 ≤ n) (hn2 : n ≤ 1000000) :
    Calls Try.prog 7 #[.int .i64 c, .int .i64 n] w fun e w' => e = .returned (.int .i64 (pkI c n)) ∧ w' = w := by
  obtain ⟨m, rfl⟩ := Int.eq_ofNat_of_zero_le (show 0 ≤ n by omega)
  have h := pk_any c m w h0 h1 (by omega) (by omega)
  unfold pkI
  rw [Int.toNat_natCast]
  exact h
/-- A step's arguments may be. -/
structure StOk (kd a d : Int) (s : ByteArray) : Prop where
  k0 : -9223372036854775808 ≤ kd
  k1 : kd ≤ 9223372036854775807
  a0 : -9223372036854775808 ≤ a
  a1 : a ≤ 9223372036854775807
  d0 : -9223372036854775808 ≤ d
  d1 : d ≤ 9223372036854775807
  s : s.size ≤ maxLen
/-- A step, as a value. -/
def stV (kd a d : Int) (s : ByteArray) : Value := .agg #[.int .i64 kd, .int .i64 a, .int .i64 d, .string s]
theorem KSt.below {w w' : World} {B b x : Nat} {room : Int} {g c : Nat → Nat} {F : Nat → Prop} {l : List Ev} {fls bnd rec wth : Nat → ByteArray} {has : Nat → Bool} {by' : Nat → Nat} (h : KSt w B b x room g c F l fls bnd rec wth has by') (hb : Below w.heap.size w w') : KSt w' B b x room g c F l fls bnd rec wth has by' :=
  ⟨h.ps.kept hb.size (fun k q => hb.block k (h.ps.lt k q)), h.km.below hb h.sz, h.inv, Nat.le_trans h.sz hb.size⟩
theorem KPost.from' {w w0 w' : World} {B b x : Nat} {room : Int} {g c : Nat → Nat} {F : Nat → Prop} {l : List Ev} {fls : Nat → ByteArray} (h : KPost w0 B b x room g c F l fls w') (hb : Below w.heap.size w w0) : KPost w B b x room g c F l fls w' := by
  obtain ⟨F', l', bnd, rec, wth, has, by', h1, h2, h3⟩ := h
  exact ⟨F', l', bnd, rec, wth, has, by', h1, h2, (ChgF.ofBelow hb).trans h3 (fun _ _ q => q)⟩
set_option maxRecDepth 100000 in
set_option maxHeartbeats 1600000 in
theorem kstep_0 (B b x : Nat) (kd a d : Int) (s : ByteArray) (room : Int) (g c : Nat → Nat) (F : Nat → Prop) (l : List Ev) (fls bnd rec wth : Nat → ByteArray) (has : Nat → Bool) (by' : Nat → Nat) (w : World) (h : KSt w B b x room g c F l fls bnd rec wth has by') (hk : pk kd 4 = 0) (ho : StOk kd a d s) :
    Calls Try.prog 12 #[.pointer (some ⟨b, 0, none⟩), stV kd a d s] w fun e w' => e = .returned (.bool true) ∧ KPost w B b x room g c F l fls w' := by
  have KP := hid (fun w => pk_any kd 4 w ho.k0 ho.k1 (by omega) (by omega))
  rw [hk] at KP
  obtain ⟨w0, hw0⟩ : ∃ w0, w.alloc (.cells #[.int .i64 kd, .int .i64 a, .int .i64 d, .string s] 41) = w0 := ⟨_, rfl⟩
  have bw : Below w.heap.size w w0 := by rw [← hw0]; exact (Below.refl _ _).alloc (Nat.le_refl _) _
  have h0 := hid (h.below bw)
  have hz0 : w0.heap.size = w.heap.size + 1 := by rw [← hw0]; simp
  have o0 : w0.cell? ⟨w.heap.size, 0, none⟩ = some (.int .i64 kd) := by rw [← hw0]; simp
  have o1 : w0.cell? ⟨w.heap.size, 1, none⟩ = some (.int .i64 a) := by rw [← hw0]; simp
  have o2 : w0.cell? ⟨w.heap.size, 2, none⟩ = some (.int .i64 d) := by rw [← hw0]; simp
  have o3 : w0.cell? ⟨w.heap.size, 3, none⟩ = some (.string s) := by rw [← hw0]; simp
  have HW := hid (fun w' (q : KPost w0 B b x room g c F l fls w') => q.from' bw)
  have K1 := hid (fun w => pk_any a 8 w ho.a0 ho.a1 (by omega) (by omega))
  have hq := pk_lt a (n := 8) (by omega)
  have K2 := hid (kreg_any B b x (pk a 8) room g c F l fls bnd rec wth has by' w0 h0.out hq)
  generalize pk a 8 = f at *
  clear h
  unfold stV
  go_enter Try.func12, Try.ntmps12
  go_wp2_with fail
  refine Calls.mono (KP.out _) ?_
  rintro e w' ⟨rfl, kw⟩
  rw [kw]
  clear kw w'
  go_wp2_with fail
  refine Calls.mono (K1.out _) ?_
  rintro e w' ⟨rfl, kw⟩
  rw [kw]
  clear kw w'
  go_wp2_with fail
  refine Calls.mono K2.out ?_
  rintro e w1 ⟨rfl, p1⟩
  go_wp2
  go_ret
  exact ⟨rfl, HW.out _ p1⟩
set_option maxRecDepth 100000 in
set_option maxHeartbeats 1600000 in
theorem kstep_3 (B b x : Nat) (kd a d : Int) (s : ByteArray) (room : Int) (g c : Nat → Nat) (F : Nat → Prop) (l : List Ev) (fls bnd rec wth : Nat → ByteArray) (has : Nat → Bool) (by' : Nat → Nat) (w : World) (h : KSt w B b x room g c F l fls bnd rec wth has by') (hk : pk kd 4 = 3) (ho : StOk kd a d s) :
    Calls Try.prog 12 #[.pointer (some ⟨b, 0, none⟩), stV kd a d s] w fun e w' => e = .returned (.bool true) ∧ KPost w B b x room g c F l fls w' := by
  have KP := hid (fun w => pk_any kd 4 w ho.k0 ho.k1 (by omega) (by omega))
  rw [hk] at KP
  obtain ⟨w0, hw0⟩ : ∃ w0, w.alloc (.cells #[.int .i64 kd, .int .i64 a, .int .i64 d, .string s] 41) = w0 := ⟨_, rfl⟩
  have bw : Below w.heap.size w w0 := by rw [← hw0]; exact (Below.refl _ _).alloc (Nat.le_refl _) _
  have h0 := hid (h.below bw)
  have hz0 : w0.heap.size = w.heap.size + 1 := by rw [← hw0]; simp
  have o0 : w0.cell? ⟨w.heap.size, 0, none⟩ = some (.int .i64 kd) := by rw [← hw0]; simp
  have o1 : w0.cell? ⟨w.heap.size, 1, none⟩ = some (.int .i64 a) := by rw [← hw0]; simp
  have o2 : w0.cell? ⟨w.heap.size, 2, none⟩ = some (.int .i64 d) := by rw [← hw0]; simp
  have o3 : w0.cell? ⟨w.heap.size, 3, none⟩ = some (.string s) := by rw [← hw0]; simp
  have HW := hid (fun w' (q : KPost w0 B b x room g c F l fls w') => q.from' bw)
  have K1 := hid (fun w => pk_any a 5 w ho.a0 ho.a1 (by omega) (by omega))
  have hq := pk_lt a (n := 5) (by omega)
  have K2 := hid (kget_any B b x (pk a 5) room g c F l fls bnd rec wth has by' w0 h0.out hq)
  generalize pk a 5 = f at *
  clear h
  unfold stV
  go_enter Try.func12, Try.ntmps12
  go_wp2_with fail
  refine Calls.mono (KP.out _) ?_
  rintro e w' ⟨rfl, kw⟩
  rw [kw]
  clear kw w'
  go_wp2_with fail
  refine Calls.mono (K1.out _) ?_
  rintro e w' ⟨rfl, kw⟩
  rw [kw]
  clear kw w'
  go_wp2_with fail
  refine Calls.mono K2.out ?_
  rintro e w1 ⟨rfl, p1⟩
  go_wp2
  go_ret
  exact ⟨rfl, HW.out _ p1⟩
set_option maxRecDepth 100000 in
set_option maxHeartbeats 1600000 in
theorem kstep_2 (B b x : Nat) (kd a d : Int) (s : ByteArray) (room : Int) (g c : Nat → Nat) (F : Nat → Prop) (l : List Ev) (fls bnd rec wth : Nat → ByteArray) (has : Nat → Bool) (by' : Nat → Nat) (w : World) (h : KSt w B b x room g c F l fls bnd rec wth has by') (hk : pk kd 4 = 2) (ho : StOk kd a d s) :
    Calls Try.prog 12 #[.pointer (some ⟨b, 0, none⟩), stV kd a d s] w fun e w' => e = .returned (.bool true) ∧ KPost w B b x room g c F l fls w' := by
  have KP := hid (fun w => pk_any kd 4 w ho.k0 ho.k1 (by omega) (by omega))
  rw [hk] at KP
  obtain ⟨w0, hw0⟩ : ∃ w0, w.alloc (.cells #[.int .i64 kd, .int .i64 a, .int .i64 d, .string s] 41) = w0 := ⟨_, rfl⟩
  have bw : Below w.heap.size w w0 := by rw [← hw0]; exact (Below.refl _ _).alloc (Nat.le_refl _) _
  have h0 := hid (h.below bw)
  have hz0 : w0.heap.size = w.heap.size + 1 := by rw [← hw0]; simp
  have o0 : w0.cell? ⟨w.heap.size, 0, none⟩ = some (.int .i64 kd) := by rw [← hw0]; simp
  have o1 : w0.cell? ⟨w.heap.size, 1, none⟩ = some (.int .i64 a) := by rw [← hw0]; simp
  have o2 : w0.cell? ⟨w.heap.size, 2, none⟩ = some (.int .i64 d) := by rw [← hw0]; simp
  have o3 : w0.cell? ⟨w.heap.size, 3, none⟩ = some (.string s) := by rw [← hw0]; simp
  have HW := hid (fun w' (q : KPost w0 B b x room g c F l fls w') => q.from' bw)
  have hq := pk_lt a (n := 5) (by omega)
  have hq2 := pk_lt d (n := 4) (by omega)
  have hd0 := hid (h0.out.below (w' := w0.drew) (Below.drew (Below.refl _ _)))
  have K3 := hid (kput_any B b x (pk a 5) (pk d 4) s room g c F l fls bnd rec wth has by' w0.drew hd0.out hq hq2 ho.s)
  rw [show ((pk a 5 : Nat) : Int) = pkI a 5 from rfl, show ((pk d 4 : Nat) : Int) = pkI d 4 from rfl] at K3
  have hoa0 := ho.a0
  have hoa1 := ho.a1
  have hod0 := ho.d0
  have hod1 := ho.d1
  have nk : ¬ KF F b g w.heap.size := fun q => by have := h.lt _ q; omega
  clear h ho
  unfold stV
  go_enter Try.func12, Try.ntmps12
  go_wp2_with fail
  refine Calls.mono (KP.out _) ?_
  rintro e w' ⟨rfl, kw⟩
  rw [kw]
  clear kw w'
  go_wp2_with fail
  go_region_held3 (fun w' => w'.cell? ⟨w.heap.size, 1, none⟩ = some (.int .i64 a) ∧ w'.cell? ⟨w.heap.size, 2, none⟩ = some (.int .i64 d) ∧ w'.cell? ⟨w.heap.size, 3, none⟩ = some (.string s)) (first | go_keep | (refine ⟨?_, ?_, ?_⟩ <;> assumption) | assumption) (first | (go_at_call 7; refine (pkI_any _ _ _ ?_ ?_ ?_ ?_).mono ?_; (omega); (omega); (omega); (omega); rintro e w6 ⟨rfl, kw⟩; rw [kw]; clear kw w6) | (go_at_call 23; refine K3.out.mono ?_; rintro e w8 ⟨rfl, p8⟩; obtain ⟨_, _, _, _, _, _, _, _, _, c8⟩ := id p8; have k1 : w8.cell? ⟨w.heap.size, 1, none⟩ = some (.int .i64 a) := (World.cell?_of_block (c8.block w.heap.size (by show w.heap.size < w0.heap.size; omega) nk)).trans o1; have k2 : w8.cell? ⟨w.heap.size, 2, none⟩ = some (.int .i64 d) := (World.cell?_of_block (c8.block w.heap.size (by show w.heap.size < w0.heap.size; omega) nk)).trans o2; have k3 : w8.cell? ⟨w.heap.size, 3, none⟩ = some (.string s) := (World.cell?_of_block (c8.block w.heap.size (by show w.heap.size < w0.heap.size; omega) nk)).trans o3))
  all_goals go_wp2
  all_goals go_ret
  all_goals exact ⟨rfl, HW.out _ (p8.from' (Below.drew (Below.refl _ _)))⟩
set_option maxRecDepth 100000 in
set_option maxHeartbeats 1600000 in
theorem kstep_1 (B b x : Nat) (kd a d : Int) (s : ByteArray) (room : Int) (g c : Nat → Nat) (F : Nat → Prop) (l : List Ev) (fls bnd rec wth : Nat → ByteArray) (has : Nat → Bool) (by' : Nat → Nat) (w : World) (h : KSt w B b x room g c F l fls bnd rec wth has by') (hk : pk kd 4 = 1) (ho : StOk kd a d s) :
    Calls Try.prog 12 #[.pointer (some ⟨b, 0, none⟩), stV kd a d s] w fun e w' => e = .returned (.bool true) ∧ KPost w B b x room g c F l fls w' := by
  have KP := hid (fun w => pk_any kd 4 w ho.k0 ho.k1 (by omega) (by omega))
  rw [hk] at KP
  obtain ⟨w0, hw0⟩ : ∃ w0, w.alloc (.cells #[.int .i64 kd, .int .i64 a, .int .i64 d, .string s] 41) = w0 := ⟨_, rfl⟩
  have bw : Below w.heap.size w w0 := by rw [← hw0]; exact (Below.refl _ _).alloc (Nat.le_refl _) _
  have h0 := hid (h.below bw)
  have hz0 : w0.heap.size = w.heap.size + 1 := by rw [← hw0]; simp
  have o0 : w0.cell? ⟨w.heap.size, 0, none⟩ = some (.int .i64 kd) := by rw [← hw0]; simp
  have o1 : w0.cell? ⟨w.heap.size, 1, none⟩ = some (.int .i64 a) := by rw [← hw0]; simp
  have o2 : w0.cell? ⟨w.heap.size, 2, none⟩ = some (.int .i64 d) := by rw [← hw0]; simp
  have o3 : w0.cell? ⟨w.heap.size, 3, none⟩ = some (.string s) := by rw [← hw0]; simp
  have HW := hid (fun w' (q : KPost w0 B b x room g c F l fls w') => q.from' bw)
  have K1 := hid (fun w => pk_any a 4 w ho.a0 ho.a1 (by omega) (by omega))
  have hq := pk_lt a (n := 4) (by omega)
  generalize pk a 4 = i at *
  obtain ⟨q1, q2⟩ := h.inv.rem hq
  have KD := hid (pg_remove x F room l (idK i : Int) w0.drew (h0.out.ps.kept (w' := w0.drew) (Nat.le_refl _) (fun _ _ => rfl)) h.inv.kn h.inv.ok)
  have p0 := h0.out.km.p0
  have s0 : w0.cell? ⟨b, 2, none⟩ = some (.slice (some ⟨g 0, 0, none⟩) 4 (c 0)) := h0.out.km.sl 0 (by omega)
  have f0 := h0.out.km.c0 i hq
  have hi4 : (i : Int) < 4 := by omega
  clear h
  by_cases he : bnd i = ⟨#[]⟩
  · have hA := q1 he
    rw [hA] at KD
    have t0 : ((bnd i).toList == []) = true := by rw [emp_beq2]; simp [he]
    clear q1 q2 hA he
    unfold stV
    go_enter Try.func12, Try.ntmps12
    go_wp2_with fail
    refine Calls.mono (KP.out _) ?_
    rintro e w' ⟨rfl, kw⟩
    rw [kw]
    clear kw w'
    go_wp2_with fail
    refine Calls.mono (K1.out _) ?_
    rintro e w' ⟨rfl, kw⟩
    rw [kw]
    clear kw w'
    go_wp2_with fail
    go_region_held3 (fun w' => w'.cell? ⟨b, 0, none⟩ = some (.pointer (some ⟨x, 0, none⟩)) ∧ w'.cell? ⟨b, 2, none⟩ = some (.slice (some ⟨g 0, 0, none⟩) 4 (c 0)) ∧ w'.cell? ⟨g 0, i, none⟩ = some (.int .i64 (idK i : Int))) (first | go_keep | (refine ⟨?_, ?_, ?_⟩ <;> assumption) | assumption) (first | (go_at_call 22; refine KD.out.mono ?_; rintro e w1 ⟨rfl, F', p1', c1, g1⟩; have cF : ChgF F w0 w1 := (ChgF.ofBelow (Below.drew (Below.refl _ _))).trans c1 (fun k _ q => q); have km1 := hid (h0.out.km.chg cF g1 h0.out.sz); have k0 := km1.out.p0; have k1 : w1.cell? ⟨b, 2, none⟩ = some (.slice (some ⟨g 0, 0, none⟩) 4 (c 0)) := km1.out.sl 0 (by omega); have k2 := km1.out.c0 i hq))
    have hs1 := cF.size
    have bel1 := hid (KF.of (b := b) (g := g) cF)
    have m2 : w1.cell? ⟨b, 4, none⟩ = some (.slice (some ⟨g 2, 0, none⟩) 4 (c 2)) := km1.out.sl 2 (by omega)
    have n2 := km1.out.c2 i hq
    have z2 := km1.out.fz 2 (by omega) i
    go_wp2
    go_ret
    exact ⟨rfl, HW.out _ ⟨F', l, bnd, rec, wth, has, by', ⟨p1', km1.out, h0.out.inv, Nat.le_trans h0.out.sz hs1⟩, by omega, bel1.out⟩⟩
  · obtain ⟨l', hA, hl', hinv⟩ := q2 he
    rw [hA] at KD
    have t0 : ((bnd i).toList == []) = false := by rw [emp_beq2]; simp [he]
    have HIN := hid hinv
    clear q1 q2 hA he hinv
    unfold stV
    go_enter Try.func12, Try.ntmps12
    go_wp2_with fail
    refine Calls.mono (KP.out _) ?_
    rintro e w' ⟨rfl, kw⟩
    rw [kw]
    clear kw w'
    go_wp2_with fail
    refine Calls.mono (K1.out _) ?_
    rintro e w' ⟨rfl, kw⟩
    rw [kw]
    clear kw w'
    go_wp2_with fail
    go_region_held3 (fun w' => w'.cell? ⟨b, 0, none⟩ = some (.pointer (some ⟨x, 0, none⟩)) ∧ w'.cell? ⟨b, 2, none⟩ = some (.slice (some ⟨g 0, 0, none⟩) 4 (c 0)) ∧ w'.cell? ⟨g 0, i, none⟩ = some (.int .i64 (idK i : Int))) (first | go_keep | (refine ⟨?_, ?_, ?_⟩ <;> assumption) | assumption) (first | (go_at_call 22; refine KD.out.mono ?_; rintro e w1 ⟨rfl, F', p1', c1, g1⟩; have cF : ChgF F w0 w1 := (ChgF.ofBelow (Below.drew (Below.refl _ _))).trans c1 (fun k _ q => q); have km1 := hid (h0.out.km.chg cF g1 h0.out.sz); have k0 := km1.out.p0; have k1 : w1.cell? ⟨b, 2, none⟩ = some (.slice (some ⟨g 0, 0, none⟩) 4 (c 0)) := km1.out.sl 0 (by omega); have k2 := km1.out.c0 i hq))
    have hs1 := cF.size
    have bel1 := hid (KF.of (b := b) (g := g) cF)
    have m2 : w1.cell? ⟨b, 4, none⟩ = some (.slice (some ⟨g 2, 0, none⟩) 4 (c 2)) := km1.out.sl 2 (by omega)
    have n2 := km1.out.c2 i hq
    have z2 := km1.out.fz 2 (by omega) i
    have km2 := hid (km1.out.set2 hq ⟨#[]⟩)
    go_wp2
    go_ret
    exact ⟨rfl, HW.out _ ⟨F', l', _, rec, wth, has, by', ⟨p1'.setc (a := ⟨g 2, i, none⟩) (km1.out.gF 2 (by omega)) _, km2.out, HIN.out, by simp [World.setCell]; exact Nat.le_trans h0.out.sz hs1⟩, hl', bel1.out.setG (a := ⟨g 2, i, none⟩) (KF.own (by omega)) _⟩⟩
theorem kstep_any (B b x : Nat) (kd a d : Int) (s : ByteArray) (room : Int) (g c : Nat → Nat) (F : Nat → Prop) (l : List Ev) (fls bnd rec wth : Nat → ByteArray) (has : Nat → Bool) (by' : Nat → Nat) (w : World) (h : KSt w B b x room g c F l fls bnd rec wth has by') (ho : StOk kd a d s) :
    Calls Try.prog 12 #[.pointer (some ⟨b, 0, none⟩), stV kd a d s] w fun e w' => e = .returned (.bool true) ∧ KPost w B b x room g c F l fls w' := by
  have hq := pk_lt kd (n := 4) (by omega)
  have hc : pk kd 4 = 0 ∨ pk kd 4 = 1 ∨ pk kd 4 = 2 ∨ pk kd 4 = 3 := by omega
  rcases hc with e | e | e | e
  · exact kstep_0 B b x kd a d s room g c F l fls bnd rec wth has by' w h e ho
  · exact kstep_1 B b x kd a d s room g c F l fls bnd rec wth has by' w h e ho
  · exact kstep_2 B b x kd a d s room g c F l fls bnd rec wth has by' w h e ho
  · exact kstep_3 B b x kd a d s room g c F l fls bnd rec wth has by' w h e ho
end Go.Proofs.Ytnconbpneimjiaa

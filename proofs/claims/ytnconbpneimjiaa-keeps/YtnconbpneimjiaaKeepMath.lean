/-
  P13 to P15, plain: what the law Keeps holds a store against.
-/
import Derived.Test.YtnconbpneimjiaaStoAns
import Derived.Test.YtnconbpneimjiaaStoMath
namespace Go.Proofs.Ytnconbpneimjiaa
open Go.RowKit Go.PlainAid

/-- The four ids; the five keys. -/
def idK (i : Nat) : Nat := i * i * i * 2427
def keyK (k : Nat) : ByteArray := (⟨#[107, 101, 121, 45, 48, 48, 48, 48, 48]⟩ : ByteArray).extract 0 (4 + k)
theorem idK_lt {i : Nat} (h : i < 4) : idK i ≤ 65535 := by
  have : i = 0 ∨ i = 1 ∨ i = 2 ∨ i = 3 := by omega
  rcases this with rfl | rfl | rfl | rfl <;> decide
theorem idK_inj {i j : Nat} (hi : i < 4) (hj : j < 4) (h : idK i = idK j) : i = j := by
  have h1 : i = 0 ∨ i = 1 ∨ i = 2 ∨ i = 3 := by omega
  have h2 : j = 0 ∨ j = 1 ∨ j = 2 ∨ j = 3 := by omega
  rcases h1 with rfl | rfl | rfl | rfl <;> rcases h2 with rfl | rfl | rfl | rfl <;> first | rfl | (exfalso; revert h; decide)
theorem keyK_size {k : Nat} (h : k < 5) : (keyK k).size = 4 + k := by
  unfold keyK
  rw [ext_size]
  · omega
  · show 4 + k ≤ 9; omega
theorem keyK_inj {i j : Nat} (hi : i < 5) (hj : j < 5) (h : keyK i = keyK j) : i = j := by
  have := keyK_size hi
  rw [h, keyK_size hj] at this
  omega
theorem pOk_ne {f : ByteArray} (h : pOk f) : f ≠ ⟨#[]⟩ := by
  intro q
  have := pOk_big h
  rw [q, emp_size] at this
  omega
/-- What a frame that is read says of its file. -/
theorem dc_heads {f g r : ByteArray} (h : dcAns f g = (r, 0)) : g.size ≤ 1000 ∧ hdB g = true ∧ num g 2 2 = num f 3 2 ∧ g.extract 4 8 = f.extract (f.size - 4) f.size := by
  unfold dcAns at h
  split at h
  · simp at h
  · split at h
    · simp at h
    · split at h
      · simp at h
      · split at h
        · simp at h
        · split at h
          · simp at h
          · rename_i h1 h2 h3 h4 h5
            refine ⟨by omega, ?_, ?_, ?_⟩
            · cases hq : hdB g
              · exact absurd hq h3
              · rfl
            · exact Classical.byContradiction fun q => h4 q
            · exact Classical.byContradiction fun q => h5 q
theorem tail_num {f g : ByteArray} (hf : 4 ≤ f.size) (hg : 4 ≤ g.size) (h : f.extract (f.size - 4) f.size = g.extract (g.size - 4) g.size) : num f (f.size - 4) 4 = num g (g.size - 4) 4 := by
  have e1 := le_num f (f.size - 4) 4 (by omega)
  have e2 := le_num g (g.size - 4) 4 (by omega)
  rw [show f.size - 4 + 4 = f.size from by omega] at e1
  rw [show g.size - 4 + 4 = g.size from by omega] at e2
  have a1 := num_le (num f (f.size - 4) 4) 4 (s := le (num f (f.size - 4) 4) 4) (a := 0) (fun i _ => by rw [Nat.zero_add]) (num_lt f _ 4)
  have a2 := num_le (num g (g.size - 4) 4) 4 (s := le (num g (g.size - 4) 4) 4) (a := 0) (fun i _ => by rw [Nat.zero_add]) (num_lt g _ 4)
  rw [← a1, ← a2, e1, e2, h]
/-- A record that was put, got. -/
theorem got_is {l : List Ev} {ky g r : ByteArray} {id : Nat} (hL : LogOk l) (hg : pOk g) (hid : num g 3 2 = id) (hr : r.size ≤ 500) (hfr : frmOf l ky = some (enFrm g r)) :
    (fileOf l (id : Int) = ⟨#[]⟩ → getAns l ky = (⟨#[]⟩, 8)) ∧ (fileOf l (id : Int) = g → getAns l ky = (r, 0)) ∧
    (fileOf l (id : Int) ≠ ⟨#[]⟩ → num (fileOf l (id : Int)) ((fileOf l (id : Int)).size - 4) 4 ≠ num g (g.size - 4) 4 → getAns l ky = (⟨#[]⟩, 9)) := by
  obtain ⟨h1, h2, h3⟩ := dec_enc_frm hg hr
  obtain ⟨e0, e1, e2, e3⟩ := dc_heads h1
  have hA : getAns l ky = if hdB (enFrm g r) = false then (⟨#[]⟩, 7) else if fileOf l (num (enFrm g r) 2 2 : Int) = ⟨#[]⟩ then (⟨#[]⟩, 8) else dcAns (fileOf l (num (enFrm g r) 2 2 : Int)) (enFrm g r) := by
    unfold getAns
    rw [hfr]
  rw [if_neg (by rw [e1]; simp), e2, hid] at hA
  refine ⟨fun q => ?_, fun q => ?_, fun q q2 => ?_⟩
  · rw [hA, if_pos q]
  · rw [hA, if_neg (by rw [q]; exact pOk_ne hg), q]; exact h1
  · rw [hA, if_neg q]
    obtain ⟨b1, b2⟩ := hL.bound (id : Int) q
    generalize fileOf l (id : Int) = f at *
    have hk : pOkB f = true := (pOkB_iff f).2 b1
    have hfb := pOk_big b1
    have hgb := pOk_big hg
    unfold dcAns
    rw [if_neg (by omega), if_neg (by rw [hk]; simp), if_neg (by rw [e1]; simp), if_neg (by rw [e2, hid]; intro q3; apply q3; omega), if_pos]
    rw [e3]
    intro q3
    exact q2 (tail_num (by omega) (by omega) q3.symm)
/-- How many of the first n are bound. -/
def cntB (bnd : Nat → ByteArray) : Nat → Nat
  | 0 => 0
  | n + 1 => cntB bnd n + if bnd n = ⟨#[]⟩ then 0 else 1
theorem cntB_le (bnd : Nat → ByteArray) (n : Nat) : cntB bnd n ≤ n := by
  induction n with
  | zero => exact Nat.le_refl _
  | succ n ih => rw [cntB]; split <;> omega
theorem cntB_old {bnd bnd' : Nat → ByteArray} {n : Nat} (h : ∀ j, j < n → bnd' j = bnd j) : cntB bnd' n = cntB bnd n := by
  induction n with
  | zero => rfl
  | succ n ih => rw [cntB, cntB, ih (fun j hj => h j (by omega)), h n (by omega)]
/-- One of them turned. -/
theorem cntB_set (bnd : Nat → ByteArray) (i : Nat) (v : ByteArray) : ∀ n, i < n → cntB (fun j => if j = i then v else bnd j) n + (if bnd i = ⟨#[]⟩ then 0 else 1) = cntB bnd n + (if v = ⟨#[]⟩ then 0 else 1) := by
  intro n
  induction n with
  | zero => intro h; omega
  | succ n ih =>
    intro h
    rw [cntB, cntB]
    rcases Nat.lt_or_ge i n with c | c
    · have := ih c
      rw [if_neg (show ¬ n = i by omega)]
      omega
    · obtain rfl : i = n := by omega
      rw [cntB_old (bnd := bnd) (fun j hj => if_neg (by omega)), if_pos rfl]
      omega
/-- What Keeps knows of a store. -/
structure KInv (room : Int) (l : List Ev) (fls bnd rec wth : Nat → ByteArray) (has : Nat → Bool) (by' : Nat → Nat) : Prop where
  ok : LogOk l
  fl : ∀ f, f < 8 → pOk (fls f) ∧ num (fls f) 3 2 = idK (f / 2)
  bd : ∀ i, i < 4 → bnd i = fileOf l (idK i : Int)
  ct : idsOf l = cntB bnd 4
  no : ∀ k, k < 5 → has k = false → frmOf l (keyK k) = none
  ys : ∀ k, k < 5 → has k = true → frmOf l (keyK k) = some (enFrm (wth k) (rec k)) ∧ (rec k).size ≤ 500 ∧ by' k < 4 ∧ pOk (wth k) ∧ num (wth k) 3 2 = idK (by' k)
  ks : ∀ k, frmOf l k ≠ none → ∃ j, j < 5 ∧ k = keyK j
theorem KInv.kn {room : Int} {l : List Ev} {fls bnd rec wth : Nat → ByteArray} {has : Nat → Bool} {by' : Nat → Nat} (h : KInv room l fls bnd rec wth has by') : KN l := by
  intro ks h1 h2
  have := nodup_le h1 (L := (List.range 5).map keyK) (fun k hk => by
    obtain ⟨j, hj, e⟩ := h.ks k (h2 k hk)
    rw [e, List.mem_map]
    exact ⟨j, List.mem_range.2 hj, rfl⟩)
  rw [List.length_map, List.length_range] at this
  omega
section
variable {room : Int} {l : List Ev} {fls bnd rec wth : Nat → ByteArray} {has : Nat → Bool} {by' : Nat → Nat}
/-- A file is bound. -/
theorem KInv.reg (h : KInv room l fls bnd rec wth has by') {f : Nat} (hf : f < 8) :
    (bnd (f / 2) = ⟨#[]⟩ ∧ room ≤ (cntB bnd 4 : Int) → rgAns l room (fls f) = (0, 11, l)) ∧
    (¬ (bnd (f / 2) = ⟨#[]⟩ ∧ room ≤ (cntB bnd 4 : Int)) → ∃ l', rgAns l room (fls f) = ((idK (f / 2) : Int), 0, l') ∧ l'.length ≤ l.length + 1 ∧ KInv room l' fls (fun j => if j = f / 2 then fls f else bnd j) rec wth has by') := by
  obtain ⟨p1, p2⟩ := h.fl f hf
  have hk : pOkB (fls f) = true := (pOkB_iff _).2 p1
  have hR : rgAns l room (fls f) = if fileOf l (idK (f / 2) : Int) = ⟨#[]⟩ ∧ room ≤ (idsOf l : Int) then (0, 11, l) else ((idK (f / 2) : Int), 0, l ++ [⟨1, (idK (f / 2) : Int), ⟨#[]⟩, fls f⟩]) := by
    unfold rgAns
    rw [if_neg (by rw [hk]; simp), p2]
  rw [← h.bd (f / 2) (by omega), h.ct] at hR
  refine ⟨fun q => by rw [hR, if_pos q], fun q => ⟨_, by rw [hR, if_neg q], by simp, ?_⟩⟩
  have hok : LogOk (l ++ [⟨1, (idK (f / 2) : Int), ⟨#[]⟩, fls f⟩]) := h.ok.snoc ⟨pOk_size p1, .inl ⟨rfl, p1, by simp [p2]⟩⟩
  refine ⟨hok, h.fl, fun i hi => ?_, ?_, fun k hk1 hk2 => ?_, fun k hk1 hk2 => ?_, fun k hk => h.ks k (by rwa [frmOf_snoc, if_neg (by simp)] at hk)⟩
  · rw [fileOf_snoc]
    by_cases e : i = f / 2
    · rw [if_pos e, if_pos ⟨by simp, by rw [e]⟩]
    · rw [if_neg e, if_neg, h.bd i hi]
      rintro ⟨_, q2⟩
      exact e (idK_inj hi (by omega) (by simp only at q2; omega))
  · have h1 := idsOf_bind l ⟨1, (idK (f / 2) : Int), ⟨#[]⟩, fls f⟩ rfl
    have h2 := cntB_set bnd (f / 2) (fls f) 4 (by omega)
    have h3 := h.ok.bnd (idK (f / 2) : Int)
    rw [← h.bd (f / 2) (by omega)] at h3
    rw [if_neg (pOk_ne p1)] at h2
    have h4 := h.ct
    simp only at h1
    by_cases c : bnd (f / 2) = ⟨#[]⟩
    · rw [if_pos c] at h2
      rw [if_neg (fun q => h3.1 q c)] at h1
      omega
    · rw [if_neg c] at h2
      rw [if_pos (h3.2 c)] at h1
      omega
  · rw [frmOf_snoc, if_neg (by simp), h.no k hk1 hk2]
  · obtain ⟨q1, q2⟩ := h.ys k hk1 hk2
    exact ⟨by rw [frmOf_snoc, if_neg (by simp)]; exact q1, q2⟩
/-- An id is unbound. -/
theorem KInv.rem (h : KInv room l fls bnd rec wth has by') {i : Nat} (hi : i < 4) :
    (bnd i = ⟨#[]⟩ → rmAns l (idK i : Int) = (8, l)) ∧
    (¬ bnd i = ⟨#[]⟩ → ∃ l', rmAns l (idK i : Int) = (0, l') ∧ l'.length ≤ l.length + 1 ∧ KInv room l' fls (fun j => if j = i then ⟨#[]⟩ else bnd j) rec wth has by') := by
  have hR : rmAns l (idK i : Int) = if bnd i = ⟨#[]⟩ then (8, l) else (0, l ++ [⟨2, (idK i : Int), ⟨#[]⟩, ⟨#[]⟩⟩]) := by
    rw [h.bd i hi]; rfl
  refine ⟨fun q => by rw [hR, if_pos q], fun q => ⟨_, by rw [hR, if_neg q], by simp, ?_⟩⟩
  have hok : LogOk (l ++ [⟨2, (idK i : Int), ⟨#[]⟩, ⟨#[]⟩⟩]) := h.ok.snoc ⟨by show 0 ≤ 1000; omega, .inr (.inl ⟨rfl, rfl⟩)⟩
  refine ⟨hok, h.fl, fun j hj => ?_, ?_, fun k hk1 hk2 => ?_, fun k hk1 hk2 => ?_, fun k hk => h.ks k (by rwa [frmOf_snoc, if_neg (by simp)] at hk)⟩
  · rw [fileOf_snoc]
    by_cases e : j = i
    · rw [if_pos e, if_pos ⟨by simp, by rw [e]⟩]
    · rw [if_neg e, if_neg, h.bd j hj]
      rintro ⟨_, q2⟩
      exact e (idK_inj hj hi (by simp only at q2; omega))
  · have h1 := idsOf_free l ⟨2, (idK i : Int), ⟨#[]⟩, ⟨#[]⟩⟩ rfl
    have h2 := cntB_set bnd i ⟨#[]⟩ 4 hi
    have h3 := h.ok.bnd (idK i : Int)
    rw [← h.bd i hi] at h3
    rw [if_neg q, if_pos rfl] at h2
    simp only at h1
    rw [if_pos (h3.2 q)] at h1
    have h4 := h.ct
    omega
  · rw [frmOf_snoc, if_neg (by simp), h.no k hk1 hk2]
  · obtain ⟨q1, q2⟩ := h.ys k hk1 hk2
    exact ⟨by rw [frmOf_snoc, if_neg (by simp)]; exact q1, q2⟩
/-- A record is put. -/
theorem KInv.put (h : KInv room l fls bnd rec wth has by') {k i : Nat} (hk : k < 5) (hi : i < 4) (s : ByteArray) :
    (500 < s.size → putAns l (keyK k) s (idK i : Int) = (0, 1, l)) ∧
    (¬ 500 < s.size → bnd i = ⟨#[]⟩ → putAns l (keyK k) s (idK i : Int) = (0, 8, l)) ∧
    (¬ 500 < s.size → ¬ bnd i = ⟨#[]⟩ → ∃ (l' : List Ev) (n : Nat), putAns l (keyK k) s (idK i : Int) = ((n : Int), (0 : Int), l') ∧ 14 ≤ n ∧ n ≤ 14 + s.size ∧ l'.length ≤ l.length + 1 ∧
      KInv room l' fls bnd (fun j => if j = k then s else rec j) (fun j => if j = k then bnd i else wth j) (fun j => if j = k then true else has j) (fun j => if j = k then i else by' j)) := by
  have hks := keyK_size hk
  have hR : putAns l (keyK k) s (idK i : Int) = if 500 < s.size then (0, 1, l) else if bnd i = ⟨#[]⟩ then (0, 8, l) else (((enAns (bnd i) s).1.size : Int), (enAns (bnd i) s).2, l ++ [⟨3, 0, keyK k, (enAns (bnd i) s).1⟩]) := by
    unfold putAns
    rw [if_neg (by omega), ← h.bd i hi]
  refine ⟨fun q => by rw [hR, if_pos q], fun q q2 => by rw [hR, if_neg q, if_pos q2], fun q q2 => ?_⟩
  obtain ⟨b1, b2⟩ := h.ok.bound (idK i : Int) (by rw [← h.bd i hi]; exact q2)
  rw [← h.bd i hi] at b1 b2
  have hE : enAns (bnd i) s = (enFrm (bnd i) s, 0) := by
    unfold enAns; rw [if_neg q, if_neg (by rw [(pOkB_iff _).2 b1]; simp)]
  obtain ⟨d1, d2, d3⟩ := dec_enc_frm b1 (r := s) (by omega)
  rw [if_neg q, if_neg q2, hE] at hR
  refine ⟨_, _, hR, d3, d2, by simp, ?_⟩
  have hok : LogOk (l ++ [⟨3, 0, keyK k, enFrm (bnd i) s⟩]) := h.ok.snoc ⟨by show (enFrm (bnd i) s).size ≤ 1000; omega, .inr (.inr ⟨rfl, by show 1 ≤ (keyK k).size; omega, by show (keyK k).size ≤ 8; omega⟩)⟩
  refine ⟨hok, h.fl, fun j hj => ?_, ?_, fun j hj1 hj2 => ?_, fun j hj1 hj2 => ?_, fun y hy => ?_⟩
  · rw [fileOf_snoc, if_neg (by simp), h.bd j hj]
  · rw [idsOf_laid _ _ rfl]; exact h.ct
  · by_cases e : j = k
    · rw [if_pos e] at hj2; simp at hj2
    · rw [if_neg e] at hj2
      rw [frmOf_snoc, if_neg (fun c => e (keyK_inj hj1 hk c.2.symm)), h.no j hj1 hj2]
  · by_cases e : j = k
    · subst e
      simp only [if_true]
      exact ⟨by rw [frmOf_snoc, if_pos ⟨rfl, rfl⟩], by omega, hi, b1, by omega⟩
    · rw [if_neg e] at hj2
      simp only [if_neg e]
      obtain ⟨q1, q3⟩ := h.ys j hj1 hj2
      exact ⟨by rw [frmOf_snoc, if_neg (fun c => e (keyK_inj hj1 hk c.2.symm))]; exact q1, q3⟩
  · rw [frmOf_snoc] at hy
    by_cases e : (3 : Nat) = 3 ∧ keyK k = y
    · exact ⟨k, hk, e.2.symm⟩
    · rw [if_neg e] at hy
      exact h.ks y hy
/-- A record is got. -/
theorem KInv.get (h : KInv room l fls bnd rec wth has by') {k : Nat} (hk : k < 5) :
    (has k = false → getAns l (keyK k) = (⟨#[]⟩, 12)) ∧
    (has k = true → by' k < 4 ∧ 13 ≤ (wth k).size ∧ (wth k).size ≤ 1000 ∧ (bnd (by' k) = ⟨#[]⟩ → getAns l (keyK k) = (⟨#[]⟩, 8)) ∧ (bnd (by' k) = wth k → getAns l (keyK k) = (rec k, 0)) ∧
      (bnd (by' k) ≠ ⟨#[]⟩ → 13 ≤ (bnd (by' k)).size ∧ (bnd (by' k)).size ≤ 1000 ∧ (num (bnd (by' k)) ((bnd (by' k)).size - 4) 4 ≠ num (wth k) ((wth k).size - 4) 4 → getAns l (keyK k) = (⟨#[]⟩, 9)))) := by
  refine ⟨fun q => ?_, fun q => ?_⟩
  · unfold getAns; rw [h.no k hk q]
  · obtain ⟨q1, q2, q3, q4, q5⟩ := h.ys k hk q
    obtain ⟨r1, r2, r3⟩ := got_is h.ok q4 q5 q2 q1
    have hb := h.bd (by' k) q3
    rw [← hb] at r1 r2 r3
    refine ⟨q3, (pOk_big q4).1, pOk_size q4, r1, r2, fun q6 => ?_⟩
    obtain ⟨b1, _⟩ := h.ok.bound (idK (by' k) : Int) (by rw [← hb]; exact q6)
    rw [← hb] at b1
    exact ⟨(pOk_big b1).1, pOk_size b1, r3 q6⟩
end
end Go.Proofs.Ytnconbpneimjiaa

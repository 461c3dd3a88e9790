/-
  P13 to P15: the walks that look into the program's store: shelves.bitAt, Shelf.find, Bindings.find, Look, Of.
-/
import Derived.Test.YtnconbpneimjiaaStoMem
import Derived.BigQuiet
namespace Go.Proofs.Ytnconbpneimjiaa
open Go.RowKit Go.PlainAid

theorem ret_in {a b : Int} (h : a = b) : Ending.returned (.int .i64 a) = .returned (.int .i64 b) := by rw [h]
set_option maxRecDepth 100000 in
set_option maxHeartbeats 800000 in
theorem kbit_any (k : ByteArray) (a : Nat) (w : World) (hk : k.size ≤ maxLen) (ha : a ≤ maxLen) :
    Calls Try.prog 62 #[.string k, .int .i64 (a : Int)] w fun e w' => e = .returned (.int .i64 (kbit k a : Int)) ∧ w' = w := by
  have HK := hid (show kbit k a = if k.size ≤ a / 8 then 0 else btn k (a / 8) / 2 ^ (a % 8) % 2 from rfl)
  unfold maxLen at hk ha
  have hb := get_btn k
  have d0 : decide ((a : Int) < 0) = false := by simp
  generalize kbit k a = K at *
  by_cases hl : k.size ≤ a / 8
  · rw [if_pos hl] at HK
    have hl' : decide ((k.size : Int) ≤ (a : Int) / 8) = true := by simp; omega
    go_enter Try.func62, Try.ntmps62
    go_wp2
    go_ret
    exact ⟨ret_in (by rw [HK.out]; rfl), rfl⟩
  · rw [if_neg hl] at HK
    have hl' : decide ((k.size : Int) ≤ (a : Int) / 8) = false := by simp; omega
    have hbl := btn_lt k (a / 8)
    obtain ⟨q, hq⟩ : ∃ q, q = a / 8 := ⟨_, rfl⟩
    have HQ := hid hq
    have hqi : (a : Int) / 8 = (q : Int) := by omega
    have hql : q < k.size := by omega
    rw [← hq] at HK hbl
    clear hq
    go_enter Try.func62, Try.ntmps62
    go_wp2
    go_loop [5, 6] (fun pt i => ∃ y x : Nat, pt = .int .i64 y ∧ i = .int .i64 x ∧ x ≤ 7 ∧ y ≤ 255 ∧ K = y / 2 ^ x % 2) (fun _ i => (intOf i).toNat)
    case atStart => exact ⟨btn k q, a % 8, by go_num, by go_num, by omega, by omega, HK.out⟩
    case round =>
      obtain ⟨y, x, rfl, rfl, hx, hy, hp⟩ := hrel
      have HP := hid hp
      clear hp
      by_cases h0 : x = 0
      · have HX := hid h0
        have hd : ¬ 0 < x := by omega
        have hd' : ¬ 0 < (x : Int) := by omega
        clear h0
        go_wp2
        go_ret
        exact ⟨ret_in (by rw [HP.out, HX.out]; simp), rfl⟩
      · have hd : decide (0 < (x : Int)) = true := by simp; omega
        have HN := hid (show K = y / 2 / 2 ^ (x - 1) % 2 from by
          rw [HP.out, Nat.div_div_eq_div_mul, ← Nat.pow_succ', show (x - 1).succ = x from by omega])
        clear HP
        go_wp2
        go_round
        case rel => exact ⟨y / 2, x - 1, by go_num, by go_num, by omega, by omega, HN.out⟩
        case measure => first | (simp [intOf]; done) | (simp [intOf]; omega)

set_option maxRecDepth 100000 in
set_option maxHeartbeats 800000 in
theorem bfind_any (p B : Nat) (room : Int) (vb vs : Value) (fl : Nat → ByteArray) (m : Nat) (sp : Nat → Spt) (n : Nat) (id : Int) (w : World) (h : PMm w p B room vb vs fl m sp n) (hm : m ≤ 8) :
    Calls Try.prog 33 #[.pointer (some ⟨p, 0, none⟩), .int .i64 id] w fun e w' => (∃ x : Int, e = .returned (.int .i64 x) ∧ ((x = -1 ∧ ∀ i, i < m → (num (fl i) 3 2 : Int) ≠ id) ∨ ∃ k, k < m ∧ x = (k : Int) ∧ (num (fl k) 3 2 : Int) = id)) ∧ w' = w := by
  have c1 := h.c1
  obtain ⟨ao, cap, rfl, hcell⟩ := h.files
  have HC := hid hcell
  clear hcell h
  go_enter Try.func33, Try.ntmps33
  go_wp2
  go_loop [5] (fun i => ∃ k : Nat, i = .int .i64 k ∧ k ≤ m ∧ ∀ j, j < k → (num (fl j) 3 2 : Int) ≠ id) (fun i => m - (intOf i).toNat)
  case atStart => exact ⟨0, rfl, Nat.zero_le _, fun j hj => absurd hj (Nat.not_lt_zero j)⟩
  case round =>
    obtain ⟨k, rfl, hk, hp⟩ := hrel
    have HP := hid hp
    clear hp
    by_cases hlt : k < m
    · have hlt' : (k : Int) < (m : Int) := by omega
      obtain ⟨g, rfl, g1, g2, g3⟩ := HC.out k hlt
      have q0 : w.cell? ⟨g, k * 4, none⟩ = some (.int .i64 (num (fl k) 3 2 : Int)) := (g3 0 (by omega)).1
      have HN := hid (show num (fl k) 3 2 = num (fl k) 3 2 from rfl)
      have hnl := num_lt (fl k) 3 2
      clear g3
      revert HN
      generalize hgn : num (fl k) 3 2 = N at *
      have HGN := hid hgn
      clear hgn
      intro _
      by_cases e2 : (N : Int) = id
      · have e2' : ((N : Int) == id) = true := by simp [e2]
        have HE := hid e2
        clear e2
        go_wp2
        go_ret
        exact ⟨⟨(k : Int), rfl, .inr ⟨k, hlt, rfl, by rw [HGN.out]; exact HE.out⟩⟩, rfl⟩
      · have e2' : ((N : Int) == id) = false := by simp [e2]
        have HE := hid e2
        clear e2
        go_wp2
        go_round
        case rel =>
          refine ⟨k + 1, by go_num, by omega, fun j hj => ?_⟩
          rcases Nat.lt_or_ge j k with c | c
          · exact HP.out j c
          · rw [show j = k from by omega, HGN.out]; exact HE.out
        case measure => first | (simp [intOf]; done) | (simp [intOf]; omega)
    · have hlt' : ¬ (k : Int) < (m : Int) := by omega
      have HK := hid (show k = m from by omega)
      go_wp2
      go_ret
      exact ⟨⟨-1, rfl, .inl ⟨rfl, fun i hi => HP.out i (by rw [HK.out]; exact hi)⟩⟩, rfl⟩

/-- Where a key's way ends, as a value. -/
def endV (f : Bool) (a d : Nat) : Value := .agg #[.bool f, .int .i64 (a : Int), .int .i64 (d : Int)]
def eRow (f : Bool) (a d j : Nat) : Value := if j = 0 then .bool f else if j = 1 then .int .i64 (a : Int) else .int .i64 (d : Int)
theorem eRow_one (f : Bool) (a d j : Nat) : (eRow f a d j).oneCell' = true := by
  unfold eRow
  split
  · rfl
  · split <;> rfl
theorem eRow_new (w : World) : (w.alloc (.cells #[.bool false, .int .i64 0, .int .i64 0] 105)).rowIs w.heap.size 105 3 (eRow false 0 0) :=
  World.rowIs_alloc w #[.bool false, .int .i64 0, .int .i64 0] 105 (eRow false 0 0) (fun i hi => by
    have hi' : i < 3 := hi
    match i, hi' with
    | 0, _ => rfl
    | 1, _ => rfl
    | 2, _ => rfl)
theorem sizeEnd : (Try.prog.info? 105).map (·.size) = some 3 := by kernel_rfl
/-- How a key's way ends. -/
def EndIs (sp : Nat → Spt) (n : Nat) (k : ByteArray) (e : Ending) : Prop := ∃ f a d, e = .returned (endV f a d) ∧ Fnd0 sp n k f a d
theorem Spt.nx0 (s : Spt) : s.nx 0 = s.b0 := rfl
theorem Spt.nx1 (s : Spt) : s.nx 1 = s.b1 := rfl
set_option maxRecDepth 100000 in
set_option maxHeartbeats 1600000 in
theorem sfind_any (p B : Nat) (room : Int) (vb vs : Value) (fl : Nat → ByteArray) (m : Nat) (sp : Nat → Spt) (n : Nat) (k : ByteArray) (w : World) (h : PMm w p B room vb vs fl m sp n) (hS : Shf sp n) (hk : k.size ≤ maxLen) :
    Calls Try.prog 54 #[.pointer (some ⟨p, 2, none⟩), .string k] w fun e w' => EndIs sp n k e ∧ Below w.heap.size w w' := by
  have c2 := h.c2
  have hp := h.lt
  have hn := own_max h.sh
  obtain ⟨ao, cap, rfl, hcell⟩ := h.spots
  have HC := hid hcell
  have HB := hid (fun a w (ha : a ≤ maxLen) => kbit_any k a w hk ha)
  have hq := eRow_new w
  have hbq : Below w.heap.size w (w.alloc (.cells #[.bool false, .int .i64 0, .int .i64 0] 105)) := (Below.refl _ _).alloc (Nat.le_refl _) _
  clear hcell h
  unfold maxLen at hn HB
  go_enter Try.func54, Try.ntmps54
  go_wp2
  go_loop [5, 6, 7, 8] (fun at' st _ _ => ∃ a s : Nat, at' = .int .i64 a ∧ st = .int .i64 s ∧ Wlk sp n k s a ∧ (a < n ∨ n = 0) ∧ s ≤ a) (fun at' _ _ _ => n - (intOf at').toNat)
  case atStart => exact ⟨0, 0, rfl, rfl, Wlk.zero sp n k, by omega, Nat.le_refl _⟩
  case round =>
    obtain ⟨a, s, rfl, rfl, hW, han, hsa⟩ := hrel
    by_cases hlt : a < n
    · have hlt' : (a : Int) < (n : Int) := by omega
      obtain ⟨g, rfl, g1, g2, g3⟩ := HC.out a hlt
      have q0 : w.cell? ⟨g, a * 4, none⟩ = some (.string (sp a).ky) := (g3 0 (by omega)).1
      have q2 : w.cell? ⟨g, a * 4 + 2, none⟩ = some (.int .i64 ((sp a).b0 : Int)) := (g3 2 (by omega)).1
      have q3 : w.cell? ⟨g, a * 4 + 3, none⟩ = some (.int .i64 ((sp a).b1 : Int)) := (g3 3 (by omega)).1
      have teq := text_beq (sp a).ky k
      clear g3 han
      by_cases e : (sp a).ky = k
      · have e' : ((sp a).ky.toList == k.toList) = true := by rw [teq]; simp [e]
        have HE := hid e
        have HR := hid (show Fnd0 sp n k true a 0 from ⟨fun _ => ⟨hlt, e⟩, fun q => by simp at q⟩)
        clear e teq hW
        go_wp2_with (refine wpList_store_rowIs rfl 105 (.tmp 4) (.tmp 29) rfl w.heap.size rfl 105 3 (eRow false 0 0) (eRow true a 0) hq rfl sizeEnd (fun i _ => eRow_one _ _ _ i) ?_; intro w5 q5 b5 o5 s5)
        have hr := run_loadVar_rowIs (P := Try.prog) w5 w.heap.size 105 105 3 (eRow true a 0) _ q5 Try.underlying105 rfl sizeEnd
        refine bodyPost_ret (v := .agg (arrOf 3 (eRow true a 0))) ?_ rfl ⟨⟨true, a, 0, rfl, HR.out⟩, hbq.trans b5⟩
        simp [results, Try.results54, asAddr, hr]
      · have e' : ((sp a).ky.toList == k.toList) = false := by rw [teq]; simp [e]
        have HE := hid e
        have hcall := hid (fun w => HB.out s w (by omega))
        have hd2 := kbit_lt k s
        have HD : Hid (∃ d, d = kbit k s) := hid ⟨_, rfl⟩
        obtain ⟨d, hd⟩ := HD.out
        have HDe := hid hd
        rw [← hd] at hcall hd2
        have qd : w.cell? ⟨g, a * 4 + 2 + d, none⟩ = some (.int .i64 ((sp a).nx d : Int)) := by
          have hd01 : d = 0 ∨ d = 1 := by omega
          rcases hd01 with rfl | rfl
          · rw [Spt.nx0]; exact q2
          · rw [Spt.nx1]; exact q3
        have hbd := hS.bd a hlt d
        have HS2 := hid hS
        have HW := hid hW
        clear e teq hd hW q2 q3 HD
        generalize hx : (sp a).nx d = x at *
        have HX := hid hx
        clear hx
        have hdi : (d : Int) < 2 := by omega
        by_cases hxa : x ≤ a
        · have hxa' : (x : Int) ≤ (a : Int) := by omega
          have HR := hid (show Fnd0 sp n k false a d from ⟨fun q => by simp at q, fun _ => ⟨HW.out.none HS2.out HE.out (by rw [← HDe.out, HX.out]; exact hxa), hd2, .inr ⟨hlt, s, HW.out, HDe.out, by rw [HX.out]; exact hxa⟩⟩⟩)
          go_wp2_with (first
            | (go_at_call 62; refine Calls.mono (hcall.out _) ?_; rintro e w9 ⟨rfl, k9⟩; rw [k9]; clear k9 w9)
            | (refine wpList_store_rowIs rfl 105 (.tmp 4) (.tmp 48) rfl w.heap.size rfl 105 3 (eRow false 0 0) (eRow false a d) hq rfl sizeEnd (fun i _ => eRow_one _ _ _ i) ?_; intro w5 q5 b5 o5 s5))
          have hr := run_loadVar_rowIs (P := Try.prog) w5 w.heap.size 105 105 3 (eRow false a d) _ q5 Try.underlying105 rfl sizeEnd
          refine bodyPost_ret (v := .agg (arrOf 3 (eRow false a d))) ?_ rfl ⟨⟨false, a, d, rfl, HR.out⟩, hbq.trans b5⟩
          simp [results, Try.results54, asAddr, Act.put, hr]
        · have hxa' : ¬ (x : Int) ≤ (a : Int) := by omega
          have HN := hid (show Wlk sp n k (s + 1) x from by
            have := HW.out.next HE.out (by rw [← HDe.out, HX.out]; omega)
            rwa [← HDe.out, HX.out] at this)
          go_wp2_with (first
            | (go_at_call 62; refine Calls.mono (hcall.out _) ?_; rintro e w9 ⟨rfl, k9⟩; rw [k9]; clear k9 w9))
          go_round
          case rel => exact ⟨x, s + 1, by go_num, by go_num, HN.out, .inl hbd, by omega⟩
          case measure => first | (simp [intOf]; done) | (simp [intOf]; omega)
    · have hlt' : ¬ (a : Int) < (n : Int) := by omega
      have hn0 : n = 0 := by omega
      have HR := hid (show Fnd0 sp n k false 0 0 from ⟨fun q => by simp at q, fun _ => ⟨fun i hi => by omega, by omega, .inl ⟨hn0, rfl, rfl⟩⟩⟩)
      clear hn0
      go_wp2_with (refine wpList_store_rowIs rfl 105 (.tmp 4) (.tmp 50) rfl w.heap.size rfl 105 3 (eRow false 0 0) (eRow false 0 0) hq rfl sizeEnd (fun i _ => eRow_one _ _ _ i) ?_; intro w5 q5 b5 o5 s5)
      have hr := run_loadVar_rowIs (P := Try.prog) w5 w.heap.size 105 105 3 (eRow false 0 0) _ q5 Try.underlying105 rfl sizeEnd
      refine bodyPost_ret (v := .agg (arrOf 3 (eRow false 0 0))) ?_ rfl ⟨⟨false, 0, 0, rfl, HR.out⟩, hbq.trans b5⟩
      simp [results, Try.results54, asAddr, hr]
end Go.Proofs.Ytnconbpneimjiaa

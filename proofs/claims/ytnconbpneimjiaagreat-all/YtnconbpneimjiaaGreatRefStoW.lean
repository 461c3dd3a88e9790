/-
  P13 to P15: the walks of the document's store: file, ids, Frame.
  P13: the walk of the document's ids.
  P13 to P15: the walks of the document's store that write: New, Remove, Register, Plant, Put.
-/
import Derived.Test.YtnconbpneimjiaaGreatStoAns
import Derived.BigQuiet
import Derived.Test.YtnconbpneimjiaaGreatFileParse
import Derived.Maps.AppendAt
/-! ###  P13 to P15: the walks of the document's store: file, ids, Frame. -/
namespace Go.Proofs.YtnconbpneimjiaaGreat
open Go.RowKit Go.PlainAid

def evRow (e : Ev) : List Value := [.int .i64 (e.kd : Int), .int .i64 e.id, .string e.ky, .string e.tx]
def evCells (l : List Ev) : List Value := l.flatMap evRow
theorem evCells_len (l : List Ev) : (evCells l).length = l.length * 4 := by
  induction l with
  | nil => rfl
  | cons e l ih => simp only [evCells, List.flatMap_cons, List.length_append] at ih ⊢; rw [ih]; simp [evRow]; omega
theorem evCells_get (l : List Ev) : ∀ k j, k < l.length → j < 4 → (evCells l)[k * 4 + j]? = (evRow (evAt l k))[j]? := by
  induction l with
  | nil => intro k j h; simp at h
  | cons e l ih =>
    intro k j hk hj
    have hr : (evRow e).length = 4 := rfl
    cases k with
    | zero =>
      simp only [evCells, List.flatMap_cons, Nat.zero_mul, Nat.zero_add]
      rw [List.getElem?_append_left (by omega)]
      rfl
    | succ k =>
      simp only [evCells, List.flatMap_cons]
      rw [List.getElem?_append_right (by omega), hr, show (k + 1) * 4 + j - 4 = k * 4 + j from by omega]
      have := ih k j (by simpa using hk) hj
      simpa [evAt, evCells] using this
def sRow (room : Int) (v : Value) (j : Nat) : Value := if j = 0 then .int .i64 room else v
/-- The document's store, in memory. -/
structure RSt (w : World) (b B : Nat) (v : Value) (room : Int) (l : List Ev) : Prop where
  row : w.rowIs b 51 2 (sRow room v)
  log : w.ownsRow B 95 4 v l.length (evCells l)
section
variable {w : World} {b B : Nat} {v : Value} {room : Int} {l : List Ev}
theorem RSt.c0 (h : RSt w b B v room l) : w.cell? ⟨b, 0, none⟩ = some (.int .i64 room) := World.rowIs.cell h.row (i := 0) (by omega)
theorem RSt.c1 (h : RSt w b B v room l) : w.cell? ⟨b, 1, none⟩ = some v := World.rowIs.cell h.row (i := 1) (by omega)
theorem RSt.len (h : RSt w b B v room l) : l.length ≤ maxLen := by
  rcases h.log.2 with ⟨_, h0⟩ | ⟨g, cap, cur, _, _, _, h1, h2, _⟩
  · omega
  · omega
end
/-- The log as a slice: its length, its cells. -/
theorem log_form {w : World} {B : Nat} {v : Value} {l : List Ev} (h : w.ownsRow B 95 4 v l.length (evCells l)) : ∃ ao cap, v = .slice ao l.length cap ∧ ∀ k, k < l.length → ∃ g, ao = some ⟨g, 0, none⟩ ∧ w.cell? ⟨g, k * 4, none⟩ = some (.int .i64 ((evAt l k).kd : Int)) ∧ w.cell? ⟨g, k * 4 + 1, none⟩ = some (.int .i64 (evAt l k).id) ∧ w.cell? ⟨g, k * 4 + 2, none⟩ = some (.string (evAt l k).ky) ∧ w.cell? ⟨g, k * 4 + 3, none⟩ = some (.string (evAt l k).tx) := by
  rcases h.2 with ⟨rfl, h0⟩ | ⟨g, cap, cur, rfl, hg, hgb, _⟩
  · exact ⟨none, 0, by rw [h0], fun k hk => by omega⟩
  · refine ⟨some ⟨g, 0, none⟩, cap, rfl, fun k hk => ⟨g, rfl, ?_, ?_, ?_, ?_⟩⟩
    · rw [World.ownsRow.cellAt h (k * 4) (by omega), show k * 4 = k * 4 + 0 from rfl, evCells_get l k 0 hk (by omega)]; rfl
    · rw [World.ownsRow.cellAt h (k * 4 + 1) (by omega), evCells_get l k 1 hk (by omega)]; rfl
    · rw [World.ownsRow.cellAt h (k * 4 + 2) (by omega), evCells_get l k 2 hk (by omega)]; rfl
    · rw [World.ownsRow.cellAt h (k * 4 + 3) (by omega), evCells_get l k 3 hk (by omega)]; rfl

theorem ret_st {a b : ByteArray} (h : a = b) : Ending.returned (.string a) = .returned (.string b) := by rw [h]
set_option maxRecDepth 100000 in
set_option maxHeartbeats 800000 in
theorem stoFile_any (b B : Nat) (v : Value) (room : Int) (l : List Ev) (id : Int) (w : World) (h : RSt w b B v room l) :
    Calls Tryz.prog 55 #[.pointer (some ⟨b, 0, none⟩), .int .i64 id] w fun e w' => e = .returned (.string (fileOf l id)) ∧ w' = w := by
  have c1 := h.c1
  have hlen := h.len
  unfold maxLen at hlen
  obtain ⟨ao, cap, rfl, hcell⟩ := log_form h.log
  have HC := hid hcell
  have HF := hid (show fileOf l id = fileB l id l.length from rfl)
  clear hcell h
  go_enter Tryz.func55, Tryz.ntmps55
  go_wp2
  go_loop [5] (fun i => ∃ x : Int, i = .int .i64 x ∧ -1 ≤ x ∧ x < (l.length : Int) ∧ fileOf l id = fileB l id (x + 1).toNat) (fun i => (intOf i + 1).toNat)
  case atStart => exact ⟨(l.length : Int) - 1, rfl, by omega, by omega, by rw [show ((l.length : Int) - 1 + 1).toNat = l.length from by omega]; exact HF.out⟩
  case round =>
    obtain ⟨x, rfl, hx0, hx1, hp⟩ := hrel
    have HP := hid hp
    clear hp
    by_cases hn : x < 0
    · have HX := hid (show x = -1 from by omega)
      have hd : decide (0 ≤ x) = false := by simp; omega
      go_wp2
      go_ret
      exact ⟨ret_st (by rw [HP.out, HX.out]; rfl), rfl⟩
    · obtain ⟨k, rfl⟩ := Int.eq_ofNat_of_zero_le (show 0 ≤ x by omega)
      have hd : decide (0 ≤ (k : Int)) = true := by simp
      have hk : k < l.length := by omega
      obtain ⟨g, rfl, q0, q1, q2, q3⟩ := HC.out k hk
      have HS := hid (show fileB l id ((k : Int) + 1).toNat = if (evAt l k).kd ≠ 3 ∧ (evAt l k).id = id then (evAt l k).tx else fileB l id k from by
        rw [show ((k : Int) + 1).toNat = k + 1 from by omega, fileB])
      rw [HS.out] at HP
      clear HS
      have hki : (k : Int) < (l.length : Int) := by omega
      generalize evAt l k = e at *
      by_cases e1 : e.kd = 3
      · rw [if_neg (fun q => q.1 e1)] at HP
        have e1' : ((e.kd : Int) != 3) = false := by simp [e1]
        clear e1
        go_wp2
        go_round
        case rel => exact ⟨(k : Int) - 1, rfl, by omega, by omega, by rw [HP.out]; congr 1; omega⟩
        case measure => first | (simp [intOf]; done) | (simp [intOf]; omega)
      · have e1' : ((e.kd : Int) != 3) = true := by simp; omega
        by_cases e2 : e.id = id
        · rw [if_pos ⟨e1, e2⟩] at HP
          have e2' : (e.id == id) = true := by simp [e2]
          clear e1 e2
          go_wp2
          go_ret
          exact ⟨ret_st (by rw [HP.out]), rfl⟩
        · rw [if_neg (fun q => e2 q.2)] at HP
          have e2' : (e.id == id) = false := by simp [e2]
          clear e1 e2
          go_wp2
          go_round
          case rel => exact ⟨(k : Int) - 1, rfl, by omega, by omega, by rw [HP.out]; congr 1; omega⟩
          case measure => first | (simp [intOf]; done) | (simp [intOf]; omega)

theorem ret_fr {a b : ByteArray × Int} (h : a = b) : Ending.returned (.tuple #[.string a.1, .int .i64 a.2]) = .returned (.tuple #[.string b.1, .int .i64 b.2]) := by rw [h]
set_option maxRecDepth 100000 in
set_option maxHeartbeats 800000 in
theorem stoFrame_any (b B : Nat) (v : Value) (room : Int) (l : List Ev) (ky : ByteArray) (w : World) (h : RSt w b B v room l) :
    Calls Tryz.prog 32 #[.pointer (some ⟨b, 0, none⟩), .string ky] w fun e w' => e = .returned (.tuple #[.string (frAns (frmOf l ky)).1, .int .i64 (frAns (frmOf l ky)).2]) ∧ w' = w := by
  have c1 := h.c1
  have hlen := h.len
  unfold maxLen at hlen
  obtain ⟨ao, cap, rfl, hcell⟩ := log_form h.log
  have HC := hid hcell
  have HF := hid (show frmOf l ky = frmB l ky l.length from rfl)
  clear hcell h
  go_enter Tryz.func32, Tryz.ntmps32
  go_wp2
  go_loop [6] (fun i => ∃ x : Int, i = .int .i64 x ∧ -1 ≤ x ∧ x < (l.length : Int) ∧ frmOf l ky = frmB l ky (x + 1).toNat) (fun i => (intOf i + 1).toNat)
  case atStart => exact ⟨(l.length : Int) - 1, rfl, by omega, by omega, by rw [show ((l.length : Int) - 1 + 1).toNat = l.length from by omega]; exact HF.out⟩
  case round =>
    obtain ⟨x, rfl, hx0, hx1, hp⟩ := hrel
    have HP := hid hp
    clear hp
    by_cases hn : x < 0
    · have HX := hid (show x = -1 from by omega)
      have hd : decide (0 ≤ x) = false := by simp; omega
      go_wp2
      go_ret2
      exact ⟨ret_fr (a := (⟨#[]⟩, 12)) (by rw [HP.out, HX.out]; rfl), rfl⟩
    · obtain ⟨k, rfl⟩ := Int.eq_ofNat_of_zero_le (show 0 ≤ x by omega)
      have hd : decide (0 ≤ (k : Int)) = true := by simp
      have hk : k < l.length := by omega
      obtain ⟨g, rfl, q0, q1, q2, q3⟩ := HC.out k hk
      have HS := hid (show frmB l ky ((k : Int) + 1).toNat = if (evAt l k).kd = 3 ∧ (evAt l k).ky = ky then some (evAt l k).tx else frmB l ky k from by
        rw [show ((k : Int) + 1).toNat = k + 1 from by omega, frmB])
      rw [HS.out] at HP
      clear HS
      have hki : (k : Int) < (l.length : Int) := by omega
      generalize evAt l k = e at *
      have hbq := text_beq e.ky ky
      by_cases e1 : e.kd = 3
      · have e1' : ((e.kd : Int) == 3) = true := by simp [e1]
        by_cases e2 : e.ky = ky
        · rw [if_pos ⟨e1, e2⟩] at HP
          have e2' : (e.ky.toList == ky.toList) = true := by rw [hbq]; simp [e2]
          clear e1 e2 hbq
          go_wp2
          go_ret2
          exact ⟨ret_fr (a := (e.tx, 0)) (by rw [HP.out]; rfl), rfl⟩
        · rw [if_neg (fun q => e2 q.2)] at HP
          have e2' : (e.ky.toList == ky.toList) = false := by rw [hbq]; simp [e2]
          clear e1 e2 hbq
          go_wp2
          go_round
          case rel => exact ⟨(k : Int) - 1, rfl, by omega, by omega, by rw [HP.out]; congr 1; omega⟩
          case measure => first | (simp [intOf]; done) | (simp [intOf]; omega)
      · rw [if_neg (fun q => e1 q.1)] at HP
        have e1' : ((e.kd : Int) == 3) = false := beq_eq_false_iff_ne.2 (by omega)
        clear e1 hbq
        go_wp2
        go_round
        case rel => exact ⟨(k : Int) - 1, rfl, by omega, by omega, by rw [HP.out]; congr 1; omega⟩
        case measure => first | (simp [intOf]; done) | (simp [intOf]; omega)
end Go.Proofs.YtnconbpneimjiaaGreat

/-! ###  P13: the walk of the document's ids. -/
namespace Go.Proofs.YtnconbpneimjiaaGreat
open Go.RowKit Go.PlainAid

theorem nat_beq_int (a b : Nat) : ((a : Int) == (b : Int)) = (a == b) := by rw [Bool.eq_iff_iff]; simp; omega
set_option maxRecDepth 100000 in
set_option maxHeartbeats 1600000 in
theorem stoIds_any (b B : Nat) (v : Value) (room : Int) (l : List Ev) (w : World) (h : RSt w b B v room l) :
    Calls Tryz.prog 56 #[.pointer (some ⟨b, 0, none⟩)] w fun e w' => e = .returned (.int .i64 (idsOf l : Int)) ∧ ∃ n, w' = w.drewN n := by
  have c1 := h.c1
  have hlen := h.len
  unfold maxLen at hlen
  obtain ⟨ao, cap, rfl, hcell⟩ := log_form h.log
  have HC := hid hcell
  have HI := hid (show idsOf l = idsT l l.length from rfl)
  rw [HI.out]
  clear hcell h HI
  go_enter Tryz.func56, Tryz.ntmps56
  go_wp2
  go_loopw [3, 4, 5, 6] (fun n i _ _ wr => ∃ k m : Nat, k ≤ l.length ∧ i = .int .i64 k ∧ n = .int .i64 (idsT l k : Int) ∧ wr = w.drewN m) (fun _ i _ _ _ => l.length - (intOf i).toNat)
  case atStart => exact ⟨0, 0, Nat.zero_le _, rfl, rfl, rfl⟩
  case round =>
    obtain ⟨k, m, hk, rfl, rfl, rfl⟩ := hrel
    have hle := idsT_le l k
    by_cases hlt : k < l.length
    · obtain ⟨g, rfl, p0, p1, p2, p3⟩ := HC.out k hlt
      have hki : (k : Int) < (l.length : Int) := by omega
      have hkd : decide ((k : Int) < (l.length : Int)) = true := by simp; omega
      have HS := hid (show idsT l (k + 1) = idsT l k + if lastT l k (l.length - (k + 1)) then 1 else 0 from rfl)
      have HL0 := hid (show lastT l k 0 = ((evAt l k).kd == 1) from rfl)
      have HLS := hid (fun y => show lastT l k (y + 1) = (lastT l k y && ((evAt l (k + 1 + y)).kd == 3 || (evAt l (k + 1 + y)).id != (evAt l k).id)) from rfl)
      generalize idsT l k = n0 at *
      go_wp2_with fail
      go_loopw [5, 6] (fun la jv wi => ∃ y j q : Nat, j ≤ l.length ∧ k + 1 + y = j ∧ jv = .int .i64 j ∧ la = .bool (lastT l k y) ∧ wi = w.drewN q) (fun _ jv _ => l.length - (intOf jv).toNat)
      case atStart => exact ⟨0, k + 1, m, by omega, rfl, by go_num, by rw [HL0.out, ← nat_beq_int]; rfl, rfl⟩
      case round =>
        obtain ⟨y, j, q, hj, hyj, rfl, rfl, rfl⟩ := hrel
        have HYJ := hid hyj
        by_cases hjl : j < l.length
        · obtain ⟨g', hg', r0, r1, r2, r3⟩ := HC.out j hjl
          obtain rfl : g = g' := by simpa using hg'
          have hji : (j : Int) < (l.length : Int) := by omega
          have HT := hid (show lastT l k (y + 1) = (lastT l k y && ((evAt l j).kd == 3 || (evAt l j).id != (evAt l k).id)) from by rw [HLS.out y, hyj])
          clear hyj hg'
          generalize evAt l j = ej at *
          generalize evAt l k = ek at *
          cases hla : lastT l k y
          · rw [hla] at HT
            clear hla
            go_wp2_with fail
            go_quiet (fail)
            go_wp2
            go_roundw
            case rel => exact ⟨y + 1, j + 1, q + nq, by omega, by have := HYJ.out; omega, by go_num, by rw [HT.out]; rfl, rfl⟩
            case measure => simp [intOf]; omega
          · rw [hla] at HT
            clear hla
            by_cases e1 : ej.kd = 3
            · have e1' : ((ej.kd : Int) == 3) = true := by simp [e1]
              have HT2 := hid (show lastT l k (y + 1) = true from by rw [HT.out, e1]; rfl)
              clear e1 HT
              go_wp2_with fail
              go_quiet (fail)
              go_wp2
              go_roundw
              case rel => exact ⟨y + 1, j + 1, q + nq, by omega, by have := HYJ.out; omega, by go_num, by rw [HT2.out], rfl⟩
              case measure => simp [intOf]; omega
            · have e1' : ((ej.kd : Int) == 3) = false := beq_eq_false_iff_ne.2 (by omega)
              have e1b : (ej.kd == 3) = false := beq_eq_false_iff_ne.2 e1
              rw [e1b, Bool.true_and, Bool.false_or] at HT
              clear e1 e1b
              cases hid2 : (ej.id != ek.id)
              · rw [hid2] at HT
                go_wp2_with fail
                go_quiet (fail)
                go_wp2
                go_roundw
                case rel => exact ⟨y + 1, j + 1, q + nq, by omega, by have := HYJ.out; omega, by go_num, by rw [HT.out], rfl⟩
                case measure => simp [intOf]; omega
              · rw [hid2] at HT
                go_wp2_with fail
                go_quiet (fail)
                go_wp2
                go_roundw
                case rel => exact ⟨y + 1, j + 1, q + nq, by omega, by have := HYJ.out; omega, by go_num, by rw [HT.out], rfl⟩
                case measure => simp [intOf]; omega
        · have HJ := hid (show y = l.length - (k + 1) from by omega)
          have hjn : ¬ j < l.length := hjl
          rw [← HJ.out] at HS
          clear hyj
          cases hla : lastT l k y
          · rw [hla, if_neg (by simp)] at HS
            clear hla
            go_wp2
            go_roundw
            case rel => exact ⟨k + 1, q, by omega, by go_num, by rw [HS.out]; rfl, rfl⟩
            case measure => simp [intOf]; omega
          · rw [hla, if_pos rfl] at HS
            clear hla
            go_wp2
            go_roundw
            case rel => exact ⟨k + 1, q, by omega, by go_num, by rw [HS.out]; go_num, rfl⟩
            case measure => simp [intOf]; omega
    · have HK := hid (show k = l.length from by omega)
      go_wp2
      go_ret
      exact ⟨ret_int (by rw [HK.out]), m, rfl⟩
end Go.Proofs.YtnconbpneimjiaaGreat

/-! ###  P13 to P15: the walks of the document's store that write: New, Remove, Register, Plant, Put. -/
namespace Go.Proofs.YtnconbpneimjiaaGreat
open Go.RowKit Go.PlainAid

theorem Tryz.infoEvent : (Tryz.prog.info? 95).map (fun i => (i.zero, i.size, i.bytes)) = some (some (.agg #[.int .i64 0, .int .i64 0, .string ⟨#[]⟩, .string ⟨#[]⟩]), 4, 48) := by kernel_rfl
theorem cell_four_new (w : World) (a b c d : Value) (t : TypeId) : ∀ j u, [a, b, c, d][j]? = some u → (w.alloc (.cells #[a, b, c, d] t)).cell? ((⟨w.heap.size, 0, none⟩ : Addr).add j) = some u := by
  intro j u h
  match j, h with
  | 0, h => simp at h; subst h; simp [Addr.add]
  | 1, h => simp at h; subst h; simp [Addr.add]
  | 2, h => simp at h; subst h; simp [Addr.add]
  | 3, h => simp at h; subst h; simp [Addr.add]
  | j + 4, h => simp at h
theorem emp_beq (x : ByteArray) : (x.toList == []) = decide (x = ⟨#[]⟩) := by
  rw [← text_beq, ByteArray.toList_eq ⟨#[]⟩]
theorem own_frm4 {w : World} {base size n e : Nat} {v : Value} {xs : List Value} (h : w.ownsRow base e size v n xs) (hn : 0 < n) : ∃ g cap, v = .slice (some ⟨g, 0, none⟩) n cap := by
  rcases h.2 with ⟨_, h0⟩ | ⟨g, cap, _, hv, _⟩
  · omega
  · exact ⟨g, cap, hv⟩
/-- What a call of a store may change: its block, its log's row. -/
structure Chg (b : Nat) (v : Value) (w w' : World) : Prop where
  os : w'.os = w.os
  tape : w'.tape = w.tape
  output : w'.output = w.output
  size : w.heap.size ≤ w'.heap.size
  block : ∀ k, k < w.heap.size → k ≠ b → some k ≠ v.ownBlock → w'.heap[k]? = w.heap[k]?
theorem Chg.refl (b : Nat) (v : Value) (w : World) : Chg b v w w := ⟨rfl, rfl, rfl, Nat.le_refl _, fun _ _ _ _ => rfl⟩
theorem Chg.drew (b : Nat) (v : Value) (w : World) (n : Nat) : Chg b v w (w.drewN n) := ⟨rfl, rfl, rfl, Nat.le_refl _, fun _ _ _ _ => rfl⟩
theorem Chg.ofBelow {b : Nat} {v : Value} {w w' : World} (h : Below w.heap.size w w') : Chg b v w w' := ⟨h.os, h.tape, h.output, h.size, fun k hk _ _ => h.block k hk⟩
theorem Chg.trans {b : Nat} {v : Value} {w w1 w2 : World} (h : Chg b v w w1) (k : Chg b v w1 w2) : Chg b v w w2 :=
  ⟨k.os.trans h.os, k.tape.trans h.tape, k.output.trans h.output, Nat.le_trans h.size k.size, fun i h1 h2 h3 => (k.block i (Nat.lt_of_lt_of_le h1 h.size) h2 h3).trans (h.block i h1 h2 h3)⟩
/-- Where a log lies behind a call. -/
def Lies (w : World) (v v' : Value) : Prop := v'.ownBlock = v.ownBlock ∨ ∃ g, v'.ownBlock = some g ∧ w.heap.size ≤ g
theorem evCells_snoc (l : List Ev) (e : Ev) : evCells (l ++ [e]) = evCells l ++ evRow e := by simp [evCells]
section
variable {w w2 : World} {b B : Nat} {v v' : Value} {room : Int} {l : List Ev} {e : Ev} {o : Obj}
theorem RSt.lt (h : RSt w b B v room l) : b < w.heap.size := World.rowIs.lt h.row
theorem RSt.mid (h : RSt w b B v room l) (hb : b < B) (hg : (w.alloc o).grownBy w2 v.ownBlock) : w2.rowIs b 51 2 (sRow room v) := by
  have hl := h.lt
  have hv := h.log.lt
  refine World.rowIs.of_block (World.rowIs.alloc h.row o) (hg.block b (by simp; omega) (fun q => ?_))
  have := (hv b q.symm).1
  omega
theorem RSt.push (h : RSt w b B v room l) (hb : b < B) (hg : (w.alloc o).grownBy w2 v.ownBlock) (ho : w2.ownsRow B 95 4 v' (l.length + 1) (evCells l ++ evRow e)) : RSt (w2.setCell ⟨b, 1, none⟩ v') b B v' room (l ++ [e]) := by
  refine ⟨World.rowIs.congr (World.rowIs.set (h.mid hb hg) 1 v') (fun i hi => by match i, hi with | 0, _ => rfl | 1, _ => rfl), ?_⟩
  have := ownsRow_setCell_below ho (a := ⟨b, 1, none⟩) hb v'
  rw [evCells_snoc, List.length_append]
  exact this
theorem chg_push (hg : (w.alloc o).grownBy w2 v.ownBlock) : Chg b v w (w2.setCell ⟨b, 1, none⟩ v') := by
  refine ⟨hg.os, hg.tape, hg.output, ?_, fun k hk h1 h2 => ?_⟩
  · have := hg.size
    simp at this ⊢
    omega
  · rw [Below.heap_setCell _ _ _ _ (by simpa using h1), hg.block k (by simp; omega) h2, Below.heap_alloc _ _ _ hk]
theorem RSt.drew (n : Nat) (h : RSt w b B v room l) : RSt (w.drewN n) b B v room l := ⟨h.row, h.log⟩
theorem lies_at (hat : v'.ownBlock = v.ownBlock ∨ v'.ownBlock = some (w.alloc o).heap.size) : Lies w v v' := by
  rcases hat with q | q
  · exact .inl q
  · exact .inr ⟨_, q, by simp⟩
end

set_option maxRecDepth 100000 in
set_option maxHeartbeats 800000 in
theorem stoRemove_any (b B : Nat) (v : Value) (room : Int) (l : List Ev) (id : Int) (w : World) (h : RSt w b B v room l) (hb : b < B) (hB : B ≤ w.heap.size) (hl : l.length < 2900000000000) :
    Calls Tryz.prog 24 #[.pointer (some ⟨b, 0, none⟩), .int .i64 id] w fun e w' => e = .returned (.int .i64 (rmAns l id).1) ∧ ∃ v', RSt w' b B v' room (rmAns l id).2 ∧ Chg b v w w' ∧ Lies w v v' := by
  obtain ⟨i1, gi, gz0, gz1, gz2⟩ := info_parts Tryz.infoEvent
  have HF := hid (stoFile_any b B v room l id w h)
  have c1 := h.c1
  have heq := emp_beq (fileOf l id)
  by_cases hf : fileOf l id = ⟨#[]⟩
  · have HA := hid (show rmAns l id = (8, l) from by unfold rmAns; rw [if_pos hf])
    have hf' : ((fileOf l id).toList == []) = true := by rw [heq]; simp [hf]
    rw [HA.out]
    clear hf heq HA
    generalize fileOf l id = F at *
    go_enter Tryz.func24, Tryz.ntmps24
    go_wp2_with fail
    refine Calls.mono HF.out ?_
    rintro e w1 ⟨rfl, k1⟩
    rw [k1]
    clear k1 w1
    go_wp2
    go_ret
    exact ⟨rfl, v, h, Chg.refl _ _ _, .inl rfl⟩
  · have HA := hid (show rmAns l id = (0, l ++ [⟨2, id, ⟨#[]⟩, ⟨#[]⟩⟩]) from by unfold rmAns; rw [if_neg hf])
    have hf' : ((fileOf l id).toList == []) = false := by rw [heq]; simp [hf]
    rw [HA.out]
    clear hf heq HA
    generalize fileOf l id = F at *
    go_enter Tryz.func24, Tryz.ntmps24
    go_wp2_with fail
    refine Calls.mono HF.out ?_
    rintro e w1 ⟨rfl, k1⟩
    rw [k1]
    clear k1 w1
    go_wp2_with (at_builtin; refine wpList_append_own_at _ rfl (.tmp 15) (.tmp 18) 49 rfl B 95 i1 (.agg #[.int .i64 0, .int .i64 0, .string ⟨#[]⟩, .string ⟨#[]⟩]) 4 48 Tryz.underlying49 gi gz0 gz1 gz2 rfl (by decide) _ _ _ rfl (h.log.alloc _) ⟨_, 0, none⟩ 1 1 [.int .i64 2, .int .i64 id, .string ⟨#[]⟩, .string ⟨#[]⟩] rfl rfl (cell_four_new _ _ _ _ _ _) (by intro u hu; simp at hu; rcases hu with rfl | rfl | rfl | rfl <;> rfl) (by unfold maxLen; omega) (by omega) (by simp; omega) ?_; intro v' w4 hown' hgrow _ hat; have m4 := hid (h.mid hb hgrow); have k4 := World.rowIs.cell m4.out (i := 1) (by omega); have f4 := World.rowIs.frozen m4.out 1; have R4 := hid (h.push (e := ⟨2, id, ⟨#[]⟩, ⟨#[]⟩⟩) hb hgrow hown'); have C4 := hid (chg_push (b := b) (v' := v') hgrow); have L4 := hid (lies_at hat); obtain ⟨g4, cap4, rfl⟩ := own_frm4 hown' (by omega); clear hown' hat)
    go_ret
    exact ⟨rfl, _, R4.out, C4.out, L4.out⟩
end Go.Proofs.YtnconbpneimjiaaGreat

/-
  P4: the walks of the document's answer on tables.
  P4: the walk of the document's answer, Table.
-/
import Derived.Test.YtnconbpneimjiaaGreatTabWalks
import Derived.Test.YtnconbpneimjiaaGreatPlainT
import Derived.Maps.AppendAt
namespace Go.Proofs.YtnconbpneimjiaaGreat
open Go.RowKit Go.PlainAid

/-! ### P4: the walks of the document's answer on tables. -/
theorem Tryz.infoInt : (Tryz.prog.info? 3).map (fun i => (i.zero, i.size, i.bytes)) = some (some (.int .i64 0), 1, 8) := by kernel_rfl
theorem ret_int' {k : IntKind} {a b : Int} (h : a = b) : Ending.returned (.int k a) = .returned (.int k b) := by rw [h]
theorem ret_bool {a b : Bool} (h : a = b) : Ending.returned (.bool a) = .returned (.bool b) := by rw [h]
theorem own_drewN {w : World} {base e size : Nat} {v : Value} {n : Nat} {xs : List Value} (m : Nat) (h : w.ownsRow base e size v n xs) : (w.drewN m).ownsRow base e size v n xs := h
/-- A number as a value. -/
def natV (x : Nat) : Value := .int .i64 (x : Int)
/-- A row of n numbers in block b. -/
def Ints (w : World) (b n : Nat) (f : Nat → Int) : Prop := w.rowIs b 3 n (fun i => .int .i64 (f i))
theorem Ints.cell {w : World} {b n : Nat} {f : Nat → Int} (h : Ints w b n f) {i : Nat} (hi : i < n) : w.cell? ⟨b, i, none⟩ = some (.int .i64 (f i)) := World.rowIs.cell h hi
theorem Ints.set {w : World} {b n : Nat} {f g : Nat → Int} (h : Ints w b n f) (i : Nat) (x : Int) (e : ∀ j, upd f i x j = g j) : Ints (w.setCell ⟨b, i, none⟩ (.int .i64 x)) b n g := by
  refine World.rowIs.congr (World.rowIs.set h i _) fun j _ => ?_
  rw [← e j]; unfold upd; split <;> rfl
theorem Ints.below {w w' : World} {b n B : Nat} {f : Nat → Int} (h : Ints w b n f) (hb : Below B w w') (hB : b < B) : Ints w' b n f := World.rowIs.of_block h (hb.block b hB)

set_option maxRecDepth 100000 in
set_option maxHeartbeats 400000 in
theorem times_any (s : ByteArray) (w : World) (hs : s.size ≤ maxLen) :
    Calls Tryz.prog 69 #[.string s] w fun e w' => e = .returned (.slice (some ⟨w.heap.size, 0, none⟩) 256 256) ∧ Ints w' w.heap.size 256 (cntTo s s.size) ∧ Below w.heap.size w w' := by
  unfold maxLen at hs
  have hb := get_bt s
  have hmk : ∀ w, (Instr.makeSlice 111 (.int .i64 256) (.int .i64 256)).run Tryz.prog w = .ok (.slice (some ⟨w.heap.size, 0, none⟩) 256 256) (w.alloc (.cells (madeCells #[.int .i64 0] 256) 3)) := fun w => run_make_row' (P := Tryz.prog) 111 3 (.int .i64 0) 8 Tryz.underlying111 Tryz.infoInt rfl .i64 .i64 256 (by omega) (by omega) w
  go_enter Tryz.func69, Tryz.ntmps69
  go_wp2
  go_loopw [4, 5] (fun i _ wr => ∃ k : Nat, k ≤ s.size ∧ i = .int .i64 k ∧ Ints wr w.heap.size 256 (cntTo s k) ∧ Below w.heap.size w wr) (fun i _ _ => s.size - (intOf i).toNat)
  case atStart => exact ⟨0, Nat.zero_le _, rfl, World.rowIs_made _ _ _ _, (Below.refl _ _).alloc (Nat.le_refl _) _⟩
  case round =>
    obtain ⟨k, hk, rfl, ht, hbel⟩ := hrel
    have b0 := bt_nonneg s k
    have b1 := bt_le s k
    have hc := cntTo_bd s k (bt s k).toNat
    have h1 := ht.cell (i := (bt s k).toNat) (by omega)
    have f1 := World.rowIs.frozen ht (bt s k).toNat
    by_cases hlt : k < s.size
    · go_wp2
      go_roundw
      case rel => exact ⟨k + 1, by omega, by go_num, ht.set _ _ (fun v => cntTo_upd s k v), hbel.setCell (Nat.le_refl _) _⟩
      case measure => simp [intOf]; omega
    · go_wp2
      go_ret
      obtain rfl : k = s.size := by omega
      exact ⟨rfl, ht, hbel⟩

set_option maxRecDepth 100000 in
set_option maxHeartbeats 400000 in
theorem member_any (b : Nat) (l : Nat → Int) (v : Nat) (w : World) (hl : Ints w b 256 l) (hv : v < 256) :
    Calls Tryz.prog 101 #[.slice (some ⟨b, 0, none⟩) 256 256, .int .i64 v] w fun e w' => e = .returned (.bool (memB l v)) ∧ ∃ n, w' = w.drewN n := by
  have h1 := hl.cell hv
  by_cases hz : l v = 0
  · have hz' : (l v == 0) = true := by simp [hz]
    have HM : Hid (memB l v = false) := by simp [Hid, memB, hz]
    go_enter Tryz.func101, Tryz.ntmps101
    go_wp2
    go_ret
    exact ⟨ret_bool HM.out.symm, 0, rfl⟩
  · have hz' : (l v == 0) = false := by simp [hz]
    have HM : Hid (memB l v = decide (aheadTo l v 256 < 32)) := by simp [Hid, memB, hz]
    go_enter Tryz.func101, Tryz.ntmps101
    go_wp2
    go_loopw [5, 6] (fun n i wr => ∃ k m : Nat, k ≤ 256 ∧ wr = w.drewN m ∧ i = .int .i64 k ∧ n = .int .i64 (aheadTo l v k)) (fun _ i _ => 256 - (intOf i).toNat)
    case atStart => exact ⟨0, 0, Nat.zero_le _, rfl, rfl, rfl⟩
    case round =>
      obtain ⟨k, m, hk, rfl, rfl, rfl⟩ := hrel
      have hb := ahead_bd l v k
      by_cases hlt : k < 256
      · have h2 := hl.cell hlt
        have HA : Hid (aheadTo l v (k + 1) = aheadTo l v k + if l v < l k ∨ (l k = l v ∧ k < v) then 1 else 0) := rfl
        generalize aheadTo l v k = ah at *
        by_cases c1 : l v < l k
        · go_wp2_with fail
          go_quiet (fail)
          go_wp2
          go_roundw
          case rel => exact ⟨k + 1, m + nq, by omega, rfl, by go_num, by rw [HA.out, if_pos (Or.inl c1)]⟩
          case measure => simp [intOf]; omega
        · have c1' : decide (l v < l k) = false := by simp; omega
          by_cases c2 : l k = l v
          · have c2' : (l k == l v) = true := by simp [c2]
            have HC : Hid (l k = l v) := c2
            clear c2
            by_cases c3 : k < v
            · go_wp2_with fail
              go_quiet (fail)
              go_wp2
              go_roundw
              case rel => exact ⟨k + 1, m + nq, by omega, rfl, by go_num, by rw [HA.out, if_pos (Or.inr ⟨HC.out, c3⟩)]⟩
              case measure => simp [intOf]; omega
            · go_wp2_with fail
              go_quiet (fail)
              go_wp2
              go_roundw
              case rel => exact ⟨k + 1, m + nq, by omega, rfl, by go_num, by rw [HA.out, if_neg (by rintro (h | ⟨_, h⟩) <;> omega)]; simp⟩
              case measure => simp [intOf]; omega
          · have c2' : (l k == l v) = false := by simp [c2]
            have HC : Hid (¬ l k = l v) := c2
            clear c2
            go_wp2_with fail
            go_quiet (fail)
            go_wp2
            go_roundw
            case rel => exact ⟨k + 1, m + nq, by omega, rfl, by go_num, by rw [HA.out, if_neg (by rintro (h | ⟨h, _⟩); omega; exact HC.out h)]; simp⟩
            case measure => simp [intOf]; omega
      · have HK : Hid (k = 256) := Nat.le_antisymm hk (Nat.le_of_not_lt hlt)
        go_wp2
        go_ret
        exact ⟨ret_bool (by rw [HM.out, HK.out]), m, rfl⟩

set_option maxRecDepth 100000 in
set_option maxHeartbeats 400000 in
theorem members_any (b : Nat) (l : Nat → Int) (w : World) (hl : Ints w b 256 l) :
    Calls Tryz.prog 70 #[.slice (some ⟨b, 0, none⟩) 256 256] w fun e w' => ∃ v, e = .returned v ∧ w'.ownsRow w.heap.size 3 1 v (memTo l 256).length ((memTo l 256).map natV) ∧ Below w.heap.size w w' := by
  obtain ⟨i0, hi, hz0, hz1, hz2⟩ := info_parts Tryz.infoInt
  have hbs : b < w.heap.size := World.rowIs.lt hl
  go_enter Tryz.func70, Tryz.ntmps70
  go_wp2
  go_loopw [3, 4, 5] (fun v i _ wr => ∃ k : Nat, k ≤ 256 ∧ i = .int .i64 k ∧ wr.ownsRow w.heap.size 3 1 v (memTo l k).length ((memTo l k).map natV) ∧ Below w.heap.size w wr) (fun _ i _ _ => 256 - (intOf i).toNat)
  case atStart => exact ⟨0, Nat.zero_le _, rfl, World.ownsRow_nil _ _ _ _, Below.refl _ _⟩
  case round =>
    obtain ⟨k, hk, rfl, hown, hbel⟩ := hrel
    have hsz := hbel.size
    by_cases hlt : k < 256
    · have hlr := hl.below hbel hbs
      have hcall := hid (member_any b l k wr hlr hlt)
      have hol := memTo_len l k
      have HO := hid (memTo_step l k)
      generalize memTo l k = os at *
      cases hp : memB l k
      · rw [hp] at HO hcall
        clear hp
        go_wp2_with (go_at_call 101; refine Calls.mono hcall.out ?_; rintro e w' ⟨rfl, nq, rfl⟩)
        go_roundw
        case rel =>
          refine ⟨k + 1, by omega, by go_num, ?_, Below.drewN hbel _⟩
          rw [HO.out]; exact own_drewN _ (by simpa using hown)
        case measure => simp [intOf]; omega
      · rw [hp] at HO hcall
        clear hp
        go_wp2_with (first
          | (go_at_call 101; refine Calls.mono hcall.out ?_; rintro e w' ⟨rfl, nq, rfl⟩)
          | (at_builtin; refine wpList_append_own _ rfl (.tmp 14) (.tmp 16) 111 rfl w.heap.size 3 i0 (.int .i64 0) 1 8 Tryz.underlying111 hi hz0 hz1 hz2 rfl (by decide) _ _ _ rfl (World.ownsRow.alloc (w := wr.drewN nq) hown _) ⟨wr.heap.size, 0, none⟩ 1 1 [.int .i64 k] rfl rfl (cell_one_new _ _ _) (by intro u hu; simp at hu; subst hu; rfl) (by unfold maxLen; omega) (by omega) (by simp; omega) ?_; intro v' w1 hown' hgrow _))
        go_roundw
        case rel =>
          refine ⟨k + 1, by omega, by go_num, ?_, ?_⟩
          · rw [HO.out]; simpa [natV] using hown'
          · exact ((Below.drewN hbel _).alloc (by simp; omega) _).grown hgrow (by simp; omega) (own_base hown)
        case measure => simp [intOf]; omega
    · have HK : Hid (k = 256) := Nat.le_antisymm hk (Nat.le_of_not_lt hlt)
      go_wp2
      go_ret
      refine ⟨_, rfl, ?_, hbel⟩
      rw [← HK.out]; exact hown

set_option maxRecDepth 100000 in
set_option maxHeartbeats 800000 in
theorem rank_any (b g cap : Nat) (l : Nat → Int) (ms : List Nat) (v : Nat) (i : Int) (w : World) (hl : Ints w b 256 l) (hm : ∀ j, j < ms.length → w.cell? ⟨g, j, none⟩ = some (.int .i64 (mget ms j : Int))) (hms : ∀ j, j < ms.length → mget ms j < 256 ∧ 1 ≤ l (mget ms j) ∧ l (mget ms j) ≤ 800)
    (hn : ms.length ≤ 256) (hv : v < 256) (hlv : 1 ≤ l v ∧ l v ≤ 800) (hi : 1 ≤ i ∧ i ≤ 63) :
    Calls Tryz.prog 71 #[.slice (some ⟨b, 0, none⟩) 256 256, .slice (some ⟨g, 0, none⟩) ms.length cap, .int .i64 v, .int .i64 i] w fun e w' => e = .returned (.int .i64 (rnk l ms v i)) ∧ ∃ n, w' = w.drewN n := by
  have h1 := hl.cell hv
  have HM := hid (hm)
  have HMS := hid (hms)
  have HB : Hid (∀ k, k ≤ ms.length → 0 ≤ rankTo l ms v i k ∧ rankTo l ms v i k ≤ 50401 * k) := fun k hk => rank_bd l ms v i k (fun j hj => (hms j (by omega)).2) hi hlv.1
  clear hm hms
  unfold rnk
  generalize hN : ms.length = N at *
  clear hN
  go_enter Tryz.func71, Tryz.ntmps71
  go_wp2
  go_loopw [9, 10, 11] (fun n i' _ wr => ∃ k m : Nat, k ≤ N ∧ wr = w.drewN m ∧ i' = .int .i64 k ∧ n = .int .i64 (rankTo l ms v i k)) (fun _ i' _ _ => N - (intOf i').toNat)
  case atStart => exact ⟨0, 0, Nat.zero_le _, rfl, rfl, rfl⟩
  case round =>
    obtain ⟨k, m, hk, rfl, rfl, rfl⟩ := hrel
    have hb := HB.out k hk
    by_cases hlt : k < N
    · have hc := HM.out k hlt
      have hw := HMS.out k hlt
      have HA : Hid (rankTo l ms v i (k + 1) = rankTo l ms v i k + (l (mget ms k) * i - 1) / l v + if mget ms k < v ∧ l (mget ms k) * i % l v = 0 then 1 else 0) := rfl
      generalize mget ms k = x at *
      have h2 := hl.cell hw.1
      have hq := quo_bd hw.2 hi hlv.1
      have hr0 : 0 ≤ l x * i % l v := Int.emod_nonneg _ (by omega)
      generalize rankTo l ms v i k = ah at *
      by_cases c1 : x < v
      · by_cases c2 : l x * i % l v = 0
        · have c2' : (l x * i % l v == 0) = true := by simp [c2]
          have HC : Hid (l x * i % l v = 0) := c2
          clear c2
          go_wp2_with fail
          go_quiet (fail)
          go_wp2_with fail
          go_quiet (fail)
          go_wp2
          go_roundw
          case rel => exact ⟨k + 1, _, by omega, rfl, by go_num, by rw [HA.out, if_pos ⟨c1, HC.out⟩]⟩
          case measure => simp [intOf]; omega
        · have c2' : (l x * i % l v == 0) = false := by simp [c2]
          have HC : Hid (¬ l x * i % l v = 0) := c2
          clear c2
          go_wp2_with fail
          go_quiet (fail)
          go_wp2_with fail
          go_quiet (fail)
          go_wp2
          go_roundw
          case rel => exact ⟨k + 1, _, by omega, rfl, by go_num, by rw [HA.out, if_neg (fun h => HC.out h.2)]; simp⟩
          case measure => simp [intOf]; omega
      · have c1' : decide ((x : Int) < (v : Int)) = false := by simp; omega
        go_wp2_with fail
        go_quiet (fail)
        go_wp2_with fail
        go_quiet (fail)
        go_wp2
        go_roundw
        case rel => exact ⟨k + 1, _, by omega, rfl, by go_num, by rw [HA.out, if_neg (fun h => c1 h.1)]; simp⟩
        case measure => simp [intOf]; omega
    · have HK : Hid (k = N) := Nat.le_antisymm hk (Nat.le_of_not_lt hlt)
      go_wp2
      go_ret
      exact ⟨ret_int' (by rw [HK.out]), m, rfl⟩

/-! ### P4: the walk of the document's answer, Table. -/
theorem mget_cell {w : World} {base g n cap : Nat} {ms : List Nat} (h : w.ownsRow base 3 1 (.slice (some ⟨g, 0, none⟩) n cap) n (ms.map natV)) : ∀ j, j < ms.length → w.cell? ⟨g, j, none⟩ = some (.int .i64 (mget ms j : Int)) := by
  intro j hj
  have hl : ms.length = n := by have := h.1; simpa using this
  rw [World.ownsRow.cellAt h j (by omega)]
  simp [mget, natV, List.getElem?_eq_getElem hj]
theorem refOut_step (l : Nat → Int) (ms : List Nat) (k : Nat) : refOut l ms (k + 1) = refOut l ms k ++ [(mget ms k : Int), shTo l ms (mget ms k) 63] := rfl
theorem shTo_yes {l : Nat → Int} {ms : List Nat} {v j : Nat} (h : rnk l ms v ((j : Int) + 1) < 64 - (ms.length : Int)) : shTo l ms v (j + 1) = shTo l ms v j + 1 := by rw [shTo, if_pos h]
theorem shTo_no {l : Nat → Int} {ms : List Nat} {v j : Nat} (h : ¬ rnk l ms v ((j : Int) + 1) < 64 - (ms.length : Int)) : shTo l ms v (j + 1) = shTo l ms v j := by rw [shTo, if_neg h]; simp

set_option maxRecDepth 100000 in
set_option maxHeartbeats 1000000 in
theorem refTable_any (s : ByteArray) (l : Nat → Int) (hls : l = cntTo s s.size) (ms : List Nat) (hmss : ms = memTo l 256) (w : World) (h0 : 0 < s.size) (h1 : s.size ≤ 800) (hpos : 0 < ms.length)
    (hms : ∀ j, j < ms.length → mget ms j < 256 ∧ 1 ≤ l (mget ms j) ∧ l (mget ms j) ≤ 800) (hn : ms.length ≤ 256) :
    Calls Tryz.prog 36 #[.string s] w fun e w' => e = .returned (.tuple #[.string (strOfNums (refOut l ms ms.length)), .int .i64 0]) ∧ Below w.heap.size w w' := by
  obtain ⟨i0, hi, hz0, hz1, hz2⟩ := info_parts Tryz.infoU8
  have h2 : ¬ (800 : Int) < (s.size : Int) := by omega
  have h3 : ((s.size : Int) == 0) = false := beq_eq_false_iff_ne.2 (by omega)
  have HMS := hid (hms)
  clear hms
  have HT := hid (times_any s w (by unfold maxLen; omega))
  rw [← hls] at HT
  clear hls
  go_enter Tryz.func36, Tryz.ntmps36
  go_wp2_with fail
  refine Calls.mono HT.out ?_
  rintro e w1 ⟨rfl, hl1, hb1⟩
  have hlt1 : w.heap.size < w1.heap.size := World.rowIs.lt hl1
  clear HT
  go_wp2_with fail
  refine (members_any w.heap.size l w1 hl1).mono ?_
  rintro e w2 ⟨vm, rfl, hown, hb2⟩
  have hs2 := hb2.size
  rw [← hmss] at hown
  have hl2 := hl1.below hb2 hlt1
  clear hl1 hmss
  have hbel : Below w.heap.size w w2 := hb1.trans (hb2.mono (by omega))
  rcases hown.2 with ⟨rfl, hn0⟩ | ⟨g, cap, cur, hv, hg, hgb, _, _, _, _⟩
  · omega
  · have hgl : g < w2.heap.size := by
      rcases Nat.lt_or_ge g w2.heap.size with h | h
      · exact h
      · rw [Array.getElem?_eq_none h] at hgb; cases hgb
    rw [hv] at hown ⊢
    have HM := hid (mget_cell hown)
    clear hgb hown hb1 hb2 hv hg
    go_wp2_with fail
    go_loopw [6, 7, 8, 9, 10] (fun v i _ _ _ wr => ∃ k : Nat, k ≤ ms.length ∧ i = .int .i64 k ∧ wr.ownsRow w2.heap.size 5 1 v (refOut l ms k).length ((refOut l ms k).map (Value.int .u8)) ∧ Below w2.heap.size w2 wr) (fun _ i _ _ _ _ => ms.length - (intOf i).toNat)
    case atStart => exact ⟨0, Nat.zero_le _, rfl, World.ownsRow_nil _ _ _ _, Below.refl _ _⟩
    case round =>
      obtain ⟨k, hk, rfl, hown, hb3⟩ := hrel
      have hs3 := hb3.size
      by_cases hlt : k < ms.length
      · have hx := HMS.out k hlt
        have hlr := hl2.below hb3 (by omega)
        have hcr : wr.cell? ⟨g, k, none⟩ = some (.int .i64 (mget ms k : Int)) := (hb3.cell (p := ⟨g, k, none⟩) hgl).trans (HM.out k hlt)
        have HR : Hid (∀ j, j < ms.length → wr.cell? ⟨g, j, none⟩ = some (.int .i64 (mget ms j : Int))) := fun j hj => (hb3.cell (p := ⟨g, j, none⟩) hgl).trans (HM.out j hj)
        have HO := hid (refOut_step l ms k)
        have hol := refOut_len l ms k
        generalize mget ms k = x at *
        generalize refOut l ms k = os at *
        go_wp2_with fail
        go_loopw [8, 9, 10] (fun sh i _ wi => ∃ j m : Nat, j ≤ 63 ∧ wi = wr.drewN m ∧ i = .int .i64 ((j : Int) + 1) ∧ sh = .int .i64 (shTo l ms x j)) (fun _ i _ _ => 64 - (intOf i).toNat)
        case atStart => exact ⟨0, 0, Nat.zero_le _, rfl, rfl, rfl⟩
        case round =>
          obtain ⟨j, m, hj, rfl, rfl, rfl⟩ := hrel
          have hsh := shTo_bd l ms x j
          by_cases hj2 : j < 63
          · have hcall := hid (rank_any w.heap.size g cap l ms x ((j : Int) + 1) (wr.drewN m) hlr HR.out HMS.out hn hx.1 hx.2 (by omega))
            by_cases hr : rnk l ms x ((j : Int) + 1) < 64 - (ms.length : Int)
            · have HS := hid (shTo_yes hr)
              go_wp2_with (go_at_call 71; refine Calls.mono hcall.out ?_; rintro e w' ⟨rfl, nq, rfl⟩)
              go_roundw
              case rel => exact ⟨j + 1, _, by omega, rfl, by go_num, by rw [HS.out]⟩
              case measure => simp [intOf]; omega
            · have HS := hid (shTo_no hr)
              go_wp2_with (go_at_call 71; refine Calls.mono hcall.out ?_; rintro e w' ⟨rfl, nq, rfl⟩)
              go_roundw
              case rel => exact ⟨j + 1, _, by omega, rfl, by go_num, by rw [HS.out]⟩
              case measure => simp [intOf]; omega
          · have HJ : Hid (j = 63) := Nat.le_antisymm hj (Nat.le_of_not_lt hj2)
            go_wp2_with (at_builtin; refine wpList_append_own _ rfl (.tmp 46) (.tmp 54) 114 rfl w2.heap.size 5 i0 (.int .u8 0) 1 1 Tryz.underlying114 hi hz0 hz1 hz2 rfl (by decide) _ _ _ rfl (World.ownsRow.alloc (w := wr.drewN m) hown _) ⟨wr.heap.size, 0, none⟩ 2 2 [.int .u8 x, .int .u8 (shTo l ms x j)] rfl rfl (cell_two_new _ _ _ _) (by intro u hu; simp at hu; rcases hu with rfl | rfl <;> rfl) (by unfold maxLen; omega) (by omega) (by simp; omega) ?_; intro v' w4 hown' hgrow _)
            go_roundw
            case rel =>
              refine ⟨k + 1, by omega, by go_num, ?_, ?_⟩
              · rw [HO.out, ← HJ.out]; simpa using hown'
              · exact ((Below.drewN hb3 _).alloc (by simp; omega) _).grown hgrow (by simp; omega) (own_base hown)
            case measure => simp [intOf]; omega
      · have HK : Hid (k = ms.length) := Nat.le_antisymm hk (Nat.le_of_not_lt hlt)
        have hconv := conv_own (P := Tryz.prog) (dst := 9) Tryz.underlying114 Tryz.underlying5 Tryz.underlying9 hown
        go_wp2
        go_ret2
        exact ⟨congrArg (fun q => Ending.returned (.tuple #[.string (strOfNums (refOut l ms q)), .int .i64 0])) HK.out, hbel.trans (hb3.mono (by omega))⟩
end Go.Proofs.YtnconbpneimjiaaGreat

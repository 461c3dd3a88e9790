/-
  P4: the walk of the document's answer, Table.
-/
import Derived.Test.YtaofgdgfmdieeaaTabRefWalks
namespace Go.Proofs.Ytaofgdgfmdieeaa
open Go.RowKit Go.PlainAid

theorem mget_cell {w : World} {base g n cap : Nat} {ms : List Nat} (h : w.ownsRow base 3 1 (.slice (some ⟨g, 0, none⟩) n cap) n (ms.map natV)) : ∀ j, j < ms.length → w.cell? ⟨g, j, none⟩ = some (.int .i64 (mget ms j : Int)) := by
  intro j hj
  have hl : ms.length = n := by have := h.1; simpa using this
  rw [World.ownsRow.cellAt h j (by omega)]
  simp [mget, natV, List.getElem?_eq_getElem hj]
theorem refOut_step (l : Nat → Int) (ms : List Nat) (k : Nat) : refOut l ms (k + 1) = refOut l ms k ++ [(mget ms k : Int), shTo l ms (mget ms k) 63] := rfl
theorem shTo_yes {l : Nat → Int} {ms : List Nat} {v j : Nat} (h : rnk l ms v ((j : Int) + 1) < 64 - (ms.length : Int)) : shTo l ms v (j + 1) = shTo l ms v j + 1 := by rw [shTo, if_pos h]
theorem shTo_no {l : Nat → Int} {ms : List Nat} {v j : Nat} (h : ¬ rnk l ms v ((j : Int) + 1) < 64 - (ms.length : Int)) : shTo l ms v (j + 1) = shTo l ms v j := by rw [shTo, if_neg h]; simp

set_option maxRecDepth 100000 in
set_option maxHeartbeats 1000000 in
theorem refTable_any (s : ByteArray) (l : Nat → Int) (hls : l = cntTo s s.size) (ms : List Nat) (hmss : ms = memTo l 256) (w : World) (h0 : 0 < s.size) (h1 : s.size ≤ 800) (hpos : 0 < ms.length)
    (hms : ∀ j, j < ms.length → mget ms j < 256 ∧ 1 ≤ l (mget ms j) ∧ l (mget ms j) ≤ 800) (hn : ms.length ≤ 256) :
    Calls Try.prog 18 #[.string s] w fun e w' => e = .returned (.tuple #[.string (strOfNums (refOut l ms ms.length)), .int .i64 0]) ∧ Below w.heap.size w w' := by
  obtain ⟨i0, hi, hz0, hz1, hz2⟩ := info_parts Try.infoU8
  have h2 : ¬ (800 : Int) < (s.size : Int) := by omega
  have h3 : ((s.size : Int) == 0) = false := beq_eq_false_iff_ne.2 (by omega)
  have HMS := hid (hms)
  clear hms
  have HT := hid (times_any s w (by unfold maxLen; omega))
  rw [← hls] at HT
  clear hls
  go_enter Try.func18, Try.ntmps18
  go_wp2_with fail
  refine Calls.mono HT.out ?_
  rintro e w1 ⟨rfl, hl1, hb1⟩
  have hlt1 : w.heap.size < w1.heap.size := World.rowIs.lt hl1
  clear HT
  go_wp2_with fail
  refine (members_any w.heap.size l w1 hl1).mono ?_
  rintro e w2 ⟨vm, rfl, hown, hb2⟩
  have hs2 := hb2.size
  rw [← hmss] at hown
  have hl2 := hl1.below hb2 hlt1
  clear hl1 hmss
  have hbel : Below w.heap.size w w2 := hb1.trans (hb2.mono (by omega))
  rcases hown.2 with ⟨rfl, hn0⟩ | ⟨g, cap, cur, hv, hg, hgb, _, _, _, _⟩
  · omega
  · have hgl : g < w2.heap.size := by
      rcases Nat.lt_or_ge g w2.heap.size with h | h
      · exact h
      · rw [Array.getElem?_eq_none h] at hgb; cases hgb
    rw [hv] at hown ⊢
    have HM := hid (mget_cell hown)
    clear hgb hown hb1 hb2 hv hg
    go_wp2_with fail
    go_loopw [6, 7, 8, 9, 10] (fun v i _ _ _ wr => ∃ k : Nat, k ≤ ms.length ∧ i = .int .i64 k ∧ wr.ownsRow w2.heap.size 5 1 v (refOut l ms k).length ((refOut l ms k).map (Value.int .u8)) ∧ Below w2.heap.size w2 wr) (fun _ i _ _ _ _ => ms.length - (intOf i).toNat)
    case atStart => exact ⟨0, Nat.zero_le _, rfl, World.ownsRow_nil _ _ _ _, Below.refl _ _⟩
    case round =>
      obtain ⟨k, hk, rfl, hown, hb3⟩ := hrel
      have hs3 := hb3.size
      by_cases hlt : k < ms.length
      · have hx := HMS.out k hlt
        have hlr := hl2.below hb3 (by omega)
        have hcr : wr.cell? ⟨g, k, none⟩ = some (.int .i64 (mget ms k : Int)) := (hb3.cell (p := ⟨g, k, none⟩) hgl).trans (HM.out k hlt)
        have HR : Hid (∀ j, j < ms.length → wr.cell? ⟨g, j, none⟩ = some (.int .i64 (mget ms j : Int))) := fun j hj => (hb3.cell (p := ⟨g, j, none⟩) hgl).trans (HM.out j hj)
        have HO := hid (refOut_step l ms k)
        have hol := refOut_len l ms k
        generalize mget ms k = x at *
        generalize refOut l ms k = os at *
        go_wp2_with fail
        go_loopw [8, 9, 10] (fun sh i _ wi => ∃ j m : Nat, j ≤ 63 ∧ wi = wr.drewN m ∧ i = .int .i64 ((j : Int) + 1) ∧ sh = .int .i64 (shTo l ms x j)) (fun _ i _ _ => 64 - (intOf i).toNat)
        case atStart => exact ⟨0, 0, Nat.zero_le _, rfl, rfl, rfl⟩
        case round =>
          obtain ⟨j, m, hj, rfl, rfl, rfl⟩ := hrel
          have hsh := shTo_bd l ms x j
          by_cases hj2 : j < 63
          · have hcall := hid (rank_any w.heap.size g cap l ms x ((j : Int) + 1) (wr.drewN m) hlr HR.out HMS.out hn hx.1 hx.2 (by omega))
            by_cases hr : rnk l ms x ((j : Int) + 1) < 64 - (ms.length : Int)
            · have HS := hid (shTo_yes hr)
              go_wp2_with (go_at_call 39; refine Calls.mono hcall.out ?_; rintro e w' ⟨rfl, nq, rfl⟩)
              go_roundw
              case rel => exact ⟨j + 1, _, by omega, rfl, by go_num, by rw [HS.out]⟩
              case measure => simp [intOf]; omega
            · have HS := hid (shTo_no hr)
              go_wp2_with (go_at_call 39; refine Calls.mono hcall.out ?_; rintro e w' ⟨rfl, nq, rfl⟩)
              go_roundw
              case rel => exact ⟨j + 1, _, by omega, rfl, by go_num, by rw [HS.out]⟩
              case measure => simp [intOf]; omega
          · have HJ : Hid (j = 63) := Nat.le_antisymm hj (Nat.le_of_not_lt hj2)
            go_wp2_with (at_builtin; refine wpList_append_own _ rfl (.tmp 46) (.tmp 54) 37 rfl w2.heap.size 5 i0 (.int .u8 0) 1 1 Try.underlying37 hi hz0 hz1 hz2 rfl (by decide) _ _ _ rfl (World.ownsRow.alloc (w := wr.drewN m) hown _) ⟨wr.heap.size, 0, none⟩ 2 2 [.int .u8 x, .int .u8 (shTo l ms x j)] rfl rfl (cell_two_new _ _ _ _) (by intro u hu; simp at hu; rcases hu with rfl | rfl <;> rfl) (by unfold maxLen; omega) (by omega) (by simp; omega) ?_; intro v' w4 hown' hgrow _)
            go_roundw
            case rel =>
              refine ⟨k + 1, by omega, by go_num, ?_, ?_⟩
              · rw [HO.out, ← HJ.out]; simpa using hown'
              · exact ((Below.drewN hb3 _).alloc (by simp; omega) _).grown hgrow (by simp; omega) (own_base hown)
            case measure => simp [intOf]; omega
      · have HK : Hid (k = ms.length) := Nat.le_antisymm hk (Nat.le_of_not_lt hlt)
        have hconv := conv_own (P := Try.prog) (dst := 9) Try.underlying37 Try.underlying5 Try.underlying9 hown
        go_wp2
        go_ret2
        exact ⟨congrArg (fun q => Ending.returned (.tuple #[.string (strOfNums (refOut l ms q)), .int .i64 0])) HK.out, hbel.trans (hb3.mono (by omega))⟩
end Go.Proofs.Ytaofgdgfmdieeaa

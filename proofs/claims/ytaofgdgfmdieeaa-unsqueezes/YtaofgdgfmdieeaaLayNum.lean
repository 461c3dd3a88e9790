/-
  P5, P6: the walks of numberSlots and Lay.
-/
import Derived.Test.YtaofgdgfmdieeaaLayWalks
import Derived.Test.YtaofgdgfmdieeaaRowLaws
namespace Go.Proofs.Ytaofgdgfmdieeaa
open Go.RowKit Go.PlainAid

/-- Zero cells of an array of numbers; of a layout. -/
def zero46 : Array Value := arrOf 256 (fun _ => .int .i64 0)
def zero48 : Array Value := arrOf 384 (layRow (fun _ => 0) (fun _ => 0) (fun _ => 0))
theorem zeroV46 (w : World) : Sem.run Try.prog (zeroValue 59) w = .ok (.agg zero46) w := by kernel_rfl
theorem zeroV48 (w : World) : Sem.run Try.prog (zeroValue 61) w = .ok (.agg zero48) w := by kernel_rfl
theorem Try.size46 : (Try.prog.info? 59).map (·.size) = some 256 := by kernel_rfl
theorem Try.size48 : (Try.prog.info? 61).map (·.size) = some 384 := by kernel_rfl
theorem row46 (w : World) : (w.alloc (.cells zero46 59)).rowIs w.heap.size 59 256 (fun _ => .int .i64 0) := by
  have h := World.rowIs_alloc w zero46 59 (fun _ => .int .i64 0) (fun i hi => arrOf_get 256 _ i (by simpa [zero46, arrOf_size] using hi))
  simpa [zero46, arrOf_size] using h
theorem row48 (w : World) : Lyt (w.alloc (.cells zero48 61)) w.heap.size (fun _ => 0) (fun _ => 0) (fun _ => 0) := by
  have h := World.rowIs_alloc w zero48 61 (layRow (fun _ => 0) (fun _ => 0) (fun _ => 0)) (fun i hi => arrOf_get 384 _ i (by simpa [zero48, arrOf_size] using hi))
  unfold Lyt
  simpa [zero48, arrOf_size] using h

def natsV (f : Nat → Nat) : Nat → Value := fun i => .int .i64 (f i : Int)

set_option maxRecDepth 100000 in
set_option maxHeartbeats 800000 in
theorem numberSlots_any (b : Nat) (own num shr : Nat → Nat) (w : World) (h : Lyt w b own num shr) (ho : ∀ s, own s < 256) (hs : ∀ v, shr v ≤ 255) :
    Calls Try.prog 65 #[.pointer (some ⟨b, 0, none⟩)] w fun e w' => e = .returned (.tuple #[]) ∧ Lyt w' b own (numO own shr) shr ∧ Below b w w' := by
  have hbs : b < w.heap.size := World.rowIs.lt h
  have hz := zeroV46
  have HL := hid (fun i (hi : i < 256) => h.shrC hi)
  have HO := hid ho
  have HS := hid hs
  clear ho hs
  go_enter Try.func65, Try.ntmps65
  go_wp2_with (first
    | (refine wpList_load_part rfl 59 (.tmp 7) rfl b 128 rfl 256 (natsV shr) _ HL.out Try.underlying59 rfl Try.size46 ?_)
    | (refine wpList_store_rowIs rfl 59 (.tmp 2) (.tmp 8) rfl w.heap.size rfl 59 256 (fun _ => .int .i64 0) (natsV shr) (row46 _) rfl Try.size46 (fun _ _ => rfl) ?_; intro w1 r1 b1 o1 s1))
  have h1 : Lyt w1 b own num shr := World.rowIs.of_block h (by rw [o1 b (by omega)]; exact Below.heap_alloc _ _ _ hbs)
  have bel1 : Below b w w1 := ((Below.refl b w).alloc (by omega) _).trans (b1.mono (by omega))
  have s1' : w1.heap.size = w.heap.size + 1 := by simpa using s1
  clear h HL hz b1 o1 s1
  go_loopw [3, 4] (fun i _ wr => ∃ k : Nat, k ≤ 64 ∧ i = .int .i64 k ∧ Lyt wr b own (fun s => if s < k then numO own shr s else num s) shr ∧ wr.rowIs w.heap.size 59 256 (natsV (fun v => shr v + cntO own v k)) ∧ Below b w wr) (fun i _ _ => 64 - (intOf i).toNat)
  case atStart => exact ⟨0, Nat.zero_le _, rfl, h1.congr (fun _ _ => rfl) (fun s _ => by simp) (fun _ _ => rfl), r1, bel1⟩
  case round =>
    obtain ⟨k, hk, rfl, hl, hr, hbel⟩ := hrel
    by_cases hlt : k < 64
    · have c1 := hl.ownC hlt
      have hov := HO.out k
      have c2 : wr.cell? ⟨w.heap.size, own k, none⟩ = some (.int .i64 (numO own shr k : Int)) := World.rowIs.cell hr (i := own k) hov
      have f2 := World.rowIs.frozen hr (own k)
      have c3 := hl.numC hlt
      have f3 := World.rowIs.frozen hl (64 + k)
      have hx : numO own shr k ≤ 320 := by
        have := HS.out (own k); have := cntO_le own (own k) k; unfold numO; omega
      have HN := hid (fun s (hs : s < 64) => show (if s = k then numO own shr k else if s < k then numO own shr s else num s) = if s < k + 1 then numO own shr s else num s from by
        by_cases e : s = k
        · subst e; rw [if_pos rfl, if_pos (by omega)]
        · rw [if_neg e]
          by_cases e2 : s < k
          · rw [if_pos e2, if_pos (by omega)]
          · rw [if_neg e2, if_neg (by omega)])
      have HC := hid (fun v => show (if v = own k then numO own shr k + 1 else shr v + cntO own v k) = shr v + cntO own v (k + 1) from by
        rw [cntO]
        by_cases e : v = own k
        · rw [if_pos e, if_pos e.symm, e]; unfold numO; omega
        · rw [if_neg e, if_neg (fun q => e q.symm)]; rfl)
      generalize numO own shr k = x at *
      go_wp2_with fail
      go_region
      go_wp2
      go_roundw
      case rel =>
        refine ⟨k + 1, by omega, by go_num, ?_, ?_, ((hbel.setCell (Nat.le_refl _) _).setCell (by show b ≤ w.heap.size; omega) _).drew⟩
        · have q : Lyt _ b own _ shr := World.rowIs.drew (World.rowIs.setOther (hl.setNum hlt x) (a := ⟨w.heap.size, own k, none⟩) (by show b ≠ w.heap.size; omega) (.int .i64 ((x : Int) + 1)))
          exact q.congr (fun _ _ => rfl) HN.out (fun _ _ => rfl)
        · refine World.rowIs.drew (World.rowIs.congr (World.rowIs.set (World.rowIs.setOther hr (a := ⟨b, 64 + k, none⟩) (by show w.heap.size ≠ b; omega) (.int .i64 (x : Int))) (own k) (.int .i64 ((x : Int) + 1))) fun j _ => ?_)
          simp only [natsV]
          rw [← HC.out j]
          split <;> simp
      case measure => simp [intOf]; omega
    · have HK := hid (show k = 64 from by omega)
      go_wp2
      go_end0
      refine ⟨rfl, hl.congr (fun _ _ => rfl) (fun s hs => by rw [if_pos (by rw [HK.out]; exact hs)]) (fun _ _ => rfl), hbel⟩
end Go.Proofs.Ytaofgdgfmdieeaa

/-
  P7: the walks of the document's firsts, stands, score.
  P7: the walk of the document's Cover.
-/
import Derived.Test.YtnconbpneimjiaaCovErr
import Derived.BigQuiet
/-! ###  P7: the walks of the document's firsts, stands, score. -/
namespace Go.Proofs.Ytnconbpneimjiaa
open Go.RowKit Go.PlainAid

/-- Did one of the y pieces from i on stand at j too? -/
def agT (s : ByteArray) (d j i : Nat) : Nat → Bool
  | 0 => false
  | y + 1 => agT s d j i y || (fs s d (i + y) == fs s d j)
theorem agT_iff (s : ByteArray) (d j i y : Nat) : agT s d j i y = true ↔ ∃ z, z < y ∧ fs s d (i + z) = fs s d j := by
  induction y with
  | zero => simp [agT]
  | succ y ih =>
    rw [agT, Bool.or_eq_true, ih, beq_iff_eq]
    constructor
    · rintro (⟨z, h1, h2⟩ | h)
      · exact ⟨z, by omega, h2⟩
      · exact ⟨y, by omega, h⟩
    · rintro ⟨z, h1, h2⟩
      rcases Nat.lt_or_ge z y with c | c
      · exact .inl ⟨z, c, h2⟩
      · obtain rfl : z = y := by omega
        exact .inr h2
theorem agT_prv {s : ByteArray} {d j i y : Nat} (h : i + y = j) : agT s d j i y = !decide (prv s d j < (i : Int)) := by
  rw [Bool.eq_iff_iff, agT_iff]
  have := again_iff s d i j
  simp only [Bool.not_eq_true', decide_eq_false_iff_not]
  rw [← this]
  constructor
  · rintro ⟨z, h1, h2⟩
    exact ⟨i + z, by omega, by omega, h2⟩
  · rintro ⟨k, h1, h2, h3⟩
    exact ⟨k - i, by omega, by rw [show i + (k - i) = k from by omega]; exact h3⟩

end Go.Proofs.Ytnconbpneimjiaa

/-! ###  P7: the walk of the document's Cover. -/
namespace Go.Proofs.Ytnconbpneimjiaa
open Go.RowKit Go.PlainAid

theorem own_bel {w w' : World} {base e : Nat} {v : Value} {n : Nat} {xs : List Value} (h : w.ownsRow base e 1 v n xs) (hb : Below w.heap.size w w') : w'.ownsRow base e 1 v n xs := by
  have hl := h.lt
  refine ⟨h.1, ?_⟩
  rcases h.2 with h2 | ⟨g, cap, cur, rfl, hg, hgb, r⟩
  · exact .inl h2
  · exact .inr ⟨g, cap, cur, rfl, hg, by rw [hb.block g (hl g rfl).2]; exact hgb, r⟩
theorem ret_s0 {a b : ByteArray} (h : a = b) : Ending.returned (.tuple #[.string a, .int .i64 0]) = .returned (.tuple #[.string b, .int .i64 0]) := by rw [h]
def rowH (s : ByteArray) (d N : Nat) (tk : Nat → Bool) : List Value := (List.range N).map fun i => Value.int .i64 (hw s d N tk i : Int)
structure Rf (w : World) (B1 B2 N : Nat) (s : ByteArray) (d : Nat) (tk : Nat → Bool) (g1 c1 g2 c2 : Nat) : Prop where
  f : w.ownsRow B1 3 1 (.slice (some ⟨g1, 0, none⟩) N c1) N (rowF s d N)
  h : w.ownsRow B2 3 1 (.slice (some ⟨g2, 0, none⟩) N c2) N (rowH s d N tk)
  ne : g1 ≠ g2
section
variable {w : World} {B1 B2 N : Nat} {s : ByteArray} {d : Nat} {tk : Nat → Bool} {g1 c1 g2 c2 : Nat}
theorem Rf.cF (h : Rf w B1 B2 N s d tk g1 c1 g2 c2) (i : Nat) (hi : i < N) : w.cell? ⟨g1, i, none⟩ = some (.int .i64 (fs s d i : Int)) := by
  rw [World.ownsRow.cellAt h.f i (by omega)]; exact range_get _ _ _ hi
theorem Rf.cH (h : Rf w B1 B2 N s d tk g1 c1 g2 c2) (i : Nat) (hi : i < N) : w.cell? ⟨g2, i, none⟩ = some (.int .i64 (hw s d N tk i : Int)) := by
  rw [World.ownsRow.cellAt h.h i (by omega)]; exact range_get _ _ _ hi
theorem Rf.drew (n : Nat) (h : Rf w B1 B2 N s d tk g1 c1 g2 c2) : Rf (w.drewN n) B1 B2 N s d tk g1 c1 g2 c2 := ⟨h.f, h.h, h.ne⟩
theorem Rf.take (h : Rf w B1 B2 N s d tk g1 c1 g2 c2) (i : Nat) (tk' : Nat → Bool) (h1 : tk' i = true) (h2 : ∀ j, j ≠ i → tk' j = tk j) : Rf (w.setCell ⟨g2, i, none⟩ (.int .i64 0)) B1 B2 N s d tk' g1 c1 g2 c2 := by
  refine ⟨ownsRow_setCell_other h.f (by simp [Value.ownBlock, h.ne]) _, ?_, h.ne⟩
  have := (World.ownsRow.stored h.h i (.int .i64 0)).1
  have e : (rowH s d N tk).set i (.int .i64 0) = rowH s d N tk' := range_set (by unfold hw; rw [h1]; rfl) (fun j hj => by unfold hw; rw [h2 j hj])
  rw [e] at this
  exact this
end
theorem rowH_none (s : ByteArray) (d N : Nat) : rowT s d N N = rowH s d N (fun _ => false) := by
  unfold rowT rowH hw; rfl

end Go.Proofs.Ytnconbpneimjiaa

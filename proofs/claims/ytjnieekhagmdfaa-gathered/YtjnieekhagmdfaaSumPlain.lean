/-
  P3, the plain mathematics: the sum of a text, byte by byte. Imports nothing of the program.
-/
import Derived.Laws.BitsAllLaws
import Derived.PlainAid
namespace Go.Proofs.Ytjnieekhagmdfaa
open Go.PlainAid

/-- One step of the sum: the exclusive or, times 16777619, modulo 2^32. -/
def sumStep (h b : Int) : Int := bits .xor .i64 h b * 16777619 % 4294967296
/-- The sum of the first k bytes. -/
def sumTo (s : ByteArray) : Nat → Int
  | 0 => 2166136261
  | k + 1 => sumStep (sumTo s k) (bt s k)

theorem xor_i64_nat (a b : Nat) (ha : a < 4294967296) (hb : b < 4294967296) : bits .xor .i64 (a : Int) (b : Int) = ((a ^^^ b : Nat) : Int) := by
  have hx : a ^^^ b < 2 ^ 32 := Nat.xor_lt_two_pow (by omega) (by omega)
  show IntKind.i64.wrap ((BitVec.ofInt 64 (a : Int) ^^^ BitVec.ofInt 64 (b : Int)).toNat : Int) = _
  rw [BitVec.toNat_xor, ofInt_u64 a (by omega), ofInt_u64 b (by omega), IntKind.wrap_i64]
  omega
theorem xor_bd (a b : Int) (h1 : 0 ≤ a) (h2 : a < 4294967296) (h3 : 0 ≤ b) (h4 : b ≤ 255) : 0 ≤ bits .xor .i64 a b ∧ bits .xor .i64 a b < 4294967296 := by
  obtain ⟨A, rfl⟩ := Int.eq_ofNat_of_zero_le h1
  obtain ⟨B, rfl⟩ := Int.eq_ofNat_of_zero_le h3
  rw [xor_i64_nat A B (by omega) (by omega)]
  have hx : A ^^^ B < 2 ^ 32 := Nat.xor_lt_two_pow (by omega) (by omega)
  omega
theorem sumTo_bd (s : ByteArray) (k : Nat) : 0 ≤ sumTo s k ∧ sumTo s k < 4294967296 := by
  cases k with
  | zero => simp [sumTo]
  | succ k => simp only [sumTo, sumStep]; omega
end Go.Proofs.Ytjnieekhagmdfaa

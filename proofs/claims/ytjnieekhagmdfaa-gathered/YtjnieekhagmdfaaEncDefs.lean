/-
  P5, P6, plain: streams: what is written, what is read.
-/
import Derived.Test.YtjnieekhagmdfaaBitDefs
namespace Go.Proofs.Ytjnieekhagmdfaa
open Go.PlainAid

/-- How often m is halved till it is below twice q. -/
def jF (q : Nat) : Nat → Nat → Nat
  | 0, _ => 0
  | f + 1, m => if m < 2 * q then 0 else jF q f (m / 2) + 1
def jOf (m q : Nat) : Nat := jF q 7 m
/-- The slot of v that has this number. -/
def slotOf (own num : Nat → Nat) (v n : Nat) : Nat := ((List.range 64).find? (fun s => own s == v && num s == n)).getD 0
/-- One byte, ahead of the slot 'at': its slot, its bits. -/
def stJ (t : ByteArray) (v a : Nat) : Nat := jOf (64 + a) (tShr t v)
def stS (t : ByteArray) (v a : Nat) : Nat := slotOf (tOwn t) (tNum t) v ((64 + a) / 2 ^ stJ t v a)
def stB (t : ByteArray) (v a : Nat) : List Nat := digB (64 + a) (stJ t v a)
/-- The last c bytes of s: the slot ahead of them, their bits. -/
def encT (t s : ByteArray) : Nat → Nat × List Nat
  | 0 => (0, [])
  | c + 1 => (stS t (btn s (s.size - 1 - c)) (encT t s c).1, stB t (btn s (s.size - 1 - c)) (encT t s c).1 ++ (encT t s c).2)
/-- All bits of s. -/
def encB (t s : ByteArray) : List Nat := digB (encT t s s.size).1 6 ++ (encT t s s.size).2
/-- Has every byte a share? -/
def allSh (t s : ByteArray) : Bool := decide (∀ i, i < s.size → 1 ≤ tShr t (btn s i))

/-- The value of n bits from a place on. -/
def valF (f : Nat → Nat) (a : Nat) : Nat → Nat
  | 0 => 0
  | n + 1 => 2 * valF f a n + f (a + n)
/-- Bit i of a list; of a text. -/
def bl (l : List Nat) (i : Nat) : Nat := l.getD i 0
def bitF (s : ByteArray) (i : Nat) : Nat := btn s (i / 8) / 2 ^ (7 - i % 8) % 2
/-- The bits, closed. -/
def padL (b : List Nat) : List Nat := b ++ 1 :: List.replicate (7 - b.length % 8) 0
def packL (b : List Nat) : List Nat := (List.range (b.length / 8 + 1)).map (fun k => valF (bl (padL b)) (8 * k) 8)
def ints (l : List Nat) : List Int := l.map (fun x : Nat => (x : Int))
def strN (l : List Nat) : ByteArray := strOfNums (ints l)
/-- What Squeeze answers of a table. -/
def sqz (t s : ByteArray) : ByteArray × Bool := if allSh t s then (strN (packL (encB t s)), true) else (⟨#[]⟩, false)

/-- The slot and the place behind n bytes. -/
def decT (t s : ByteArray) : Nat → Nat × Nat
  | 0 => (valF (bitF s) 0 6, 6)
  | n + 1 => (tNum t (decT t s n).1 * 2 ^ kOf (tNum t (decT t s n).1) + valF (bitF s) (decT t s n).2 (kOf (tNum t (decT t s n).1)) - 64, (decT t s n).2 + kOf (tNum t (decT t s n).1))
/-- The n bytes. -/
def outT (t s : ByteArray) : Nat → List Nat
  | 0 => []
  | n + 1 => outT t s n ++ [tOwn t (decT t s n).1]
/-- How many zeros stand at the end of a byte. -/
def tzF : Nat → Nat → Nat
  | 0, _ => 0
  | f + 1, x => if x % 2 = 0 then tzF f (x / 2) + 1 else 0
/-- How many bits stand ahead of the closing 1, plus 1; 0: there is none. -/
def endS (s : ByteArray) : Nat := if s.size = 0 ∨ btn s (s.size - 1) = 0 then 0 else 8 * s.size - tzF 8 (btn s (s.size - 1))
/-- What Read answers. -/
def rdOk (t s : ByteArray) (n : Nat) : Bool := decide (7 ≤ endS s ∧ (decT t s n).1 = 0 ∧ (decT t s n).2 + 1 = endS s)
def rd (t s : ByteArray) (n : Nat) : ByteArray × Bool := if rdOk t s n then (strN (outT t s n), true) else (⟨#[]⟩, false)
end Go.Proofs.Ytjnieekhagmdfaa

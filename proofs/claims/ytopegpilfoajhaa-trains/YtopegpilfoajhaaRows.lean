/-
  No cell of these rows narrows 'for every input' (looked for: loops, veiled, ifaces, maps, wideKeys, modest, calm, conditions, laid).
  DERIVED. THE GIVEN ROWS OF THIS SEAT. 12 by the template 'for every input the law returns true; each argument reads behind the call as it read before'; 0 by the template 'total and deterministic' (their statements: YtopegpilfoajhaaTotals.lean).
  GIVEN WITH THE SEED: the statements are not yours to turn. If you find one false, say at which input.
  Laid BY PROGRAM, IN A SANDBOX (cutbox-rows.mjs): the forced cells as the released guide's own fill.sh prints them over the translation 7e0a85405566099d… (all of the seat's roots in one cut). By AI agents, Wed Nov 11 2026. No macro, syntax, notation, axiom, sorry.
-/
import Derived.Test.YtopegpilfoajhaaChecked
import GoSem.Claim
import GoSem.ClaimJoined
import GoSem.ClaimMapViews
import Derived.JoinedTies
import Derived.KernelRfl
namespace Go.Proofs.Ytopegpilfoajhaa
/- THE CELL 'sum', in the pinned program and in every row, IS THE sha256 OF THE DUMP (.gsa) THAT YtopegpilfoajhaaProg.lean LOADS. Nothing in Lean hashes anything: it is a label: what it is worth is what the hold of that sum in a sandbox is worth. -/
noncomputable def Try.pinned : Pinned := { name := "ytopegpilfoajhaa", sum := "7e0a85405566099d17b4958c30962952f9a10dd744f510f02b5809663013b1d4", checked := Try.checked }
namespace Rows
def none {H : Type} : Left H := { results := [], args := [] }

/-- 'glossarylaw.Sums': WHATEVER THE INPUT: true; the input reads as it did. -/
def sumsSpec : ChangeSpec := { name := "sums", fn := fun _ => fun
  | [d] => { results := [.lit (.bool true)], args := [d] }
  | _ => none }
def sumsRow : OpenClaim := { program := "ytopegpilfoajhaa", sum := "7e0a85405566099d17b4958c30962952f9a10dd744f510f02b5809663013b1d4", func := "glossary/glossarylaw.Sums", spec := "sums", apart := false }
def SumsSaid : Prop := sumsRow.holds Try.pinned (OpenSpec.ofChange sumsSpec)

/-- ITS FALSE NEIGHBOUR: 'it returns false'. Refute it at one input. -/
def sumsWrong : ChangeSpec := { name := "sums", fn := fun _ => fun
  | [d] => { results := [.lit (.bool false)], args := [d] }
  | _ => none }
def SumsWrongFalsely : Prop := sumsRow.holds Try.pinned (OpenSpec.ofChange sumsWrong)

/-- 'glossarylaw.Tables': WHATEVER THE INPUT: true; the input reads as it did. -/
def tablesSpec : ChangeSpec := { name := "tables", fn := fun _ => fun
  | [d] => { results := [.lit (.bool true)], args := [d] }
  | _ => none }
def tablesRow : OpenClaim := { program := "ytopegpilfoajhaa", sum := "7e0a85405566099d17b4958c30962952f9a10dd744f510f02b5809663013b1d4", func := "glossary/glossarylaw.Tables", spec := "tables", apart := false }
def TablesSaid : Prop := tablesRow.holds Try.pinned (OpenSpec.ofChange tablesSpec)

/-- ITS FALSE NEIGHBOUR: 'it returns false'. Refute it at one input. -/
def tablesWrong : ChangeSpec := { name := "tables", fn := fun _ => fun
  | [d] => { results := [.lit (.bool false)], args := [d] }
  | _ => none }
def TablesWrongFalsely : Prop := tablesRow.holds Try.pinned (OpenSpec.ofChange tablesWrong)

/-- 'glossarylaw.Squeezes': WHATEVER THE INPUT: true; the input reads as it did. -/
def squeezesSpec : ChangeSpec := { name := "squeezes", fn := fun _ => fun
  | [d1, d2] => { results := [.lit (.bool true)], args := [d1, d2] }
  | _ => none }
def squeezesRow : OpenClaim := { program := "ytopegpilfoajhaa", sum := "7e0a85405566099d17b4958c30962952f9a10dd744f510f02b5809663013b1d4", func := "glossary/glossarylaw.Squeezes", spec := "squeezes", apart := false }
def SqueezesSaid : Prop := squeezesRow.holds Try.pinned (OpenSpec.ofChange squeezesSpec)

/-- ITS FALSE NEIGHBOUR: 'it returns false'. Refute it at one input. -/
def squeezesWrong : ChangeSpec := { name := "squeezes", fn := fun _ => fun
  | [d1, d2] => { results := [.lit (.bool false)], args := [d1, d2] }
  | _ => none }
def SqueezesWrongFalsely : Prop := squeezesRow.holds Try.pinned (OpenSpec.ofChange squeezesWrong)

/-- 'glossarylaw.Unsqueezes': WHATEVER THE INPUT: true; the input reads as it did. -/
def unsqueezesSpec : ChangeSpec := { name := "unsqueezes", fn := fun _ => fun
  | [d1, d2, d3] => { results := [.lit (.bool true)], args := [d1, d2, d3] }
  | _ => none }
def unsqueezesRow : OpenClaim := { program := "ytopegpilfoajhaa", sum := "7e0a85405566099d17b4958c30962952f9a10dd744f510f02b5809663013b1d4", func := "glossary/glossarylaw.Unsqueezes", spec := "unsqueezes", apart := false }
def UnsqueezesSaid : Prop := unsqueezesRow.holds Try.pinned (OpenSpec.ofChange unsqueezesSpec)

/-- ITS FALSE NEIGHBOUR: 'it returns false'. Refute it at one input. -/
def unsqueezesWrong : ChangeSpec := { name := "unsqueezes", fn := fun _ => fun
  | [d1, d2, d3] => { results := [.lit (.bool false)], args := [d1, d2, d3] }
  | _ => none }
def UnsqueezesWrongFalsely : Prop := unsqueezesRow.holds Try.pinned (OpenSpec.ofChange unsqueezesWrong)

/-- 'glossarykeep.Back': WHATEVER THE INPUT: true; the input reads as it did. -/
def backSpec : ChangeSpec := { name := "back", fn := fun _ => fun
  | [d1, d2] => { results := [.lit (.bool true)], args := [d1, d2] }
  | _ => none }
def backRow : OpenClaim := { program := "ytopegpilfoajhaa", sum := "7e0a85405566099d17b4958c30962952f9a10dd744f510f02b5809663013b1d4", func := "glossary/glossarykeep.Back", spec := "back", apart := false }
def BackSaid : Prop := backRow.holds Try.pinned (OpenSpec.ofChange backSpec)

/-- ITS FALSE NEIGHBOUR: 'it returns false'. Refute it at one input. -/
def backWrong : ChangeSpec := { name := "back", fn := fun _ => fun
  | [d1, d2] => { results := [.lit (.bool false)], args := [d1, d2] }
  | _ => none }
def BackWrongFalsely : Prop := backRow.holds Try.pinned (OpenSpec.ofChange backWrong)

/-- 'glossarykeep.Canon': WHATEVER THE INPUT: true; the input reads as it did. -/
def canonSpec : ChangeSpec := { name := "canon", fn := fun _ => fun
  | [d1, d2, d3] => { results := [.lit (.bool true)], args := [d1, d2, d3] }
  | _ => none }
def canonRow : OpenClaim := { program := "ytopegpilfoajhaa", sum := "7e0a85405566099d17b4958c30962952f9a10dd744f510f02b5809663013b1d4", func := "glossary/glossarykeep.Canon", spec := "canon", apart := false }
def CanonSaid : Prop := canonRow.holds Try.pinned (OpenSpec.ofChange canonSpec)

/-- ITS FALSE NEIGHBOUR: 'it returns false'. Refute it at one input. -/
def canonWrong : ChangeSpec := { name := "canon", fn := fun _ => fun
  | [d1, d2, d3] => { results := [.lit (.bool false)], args := [d1, d2, d3] }
  | _ => none }
def CanonWrongFalsely : Prop := canonRow.holds Try.pinned (OpenSpec.ofChange canonWrong)

/-- 'glossarylaw.Covers': WHATEVER THE INPUT: true; the input reads as it did. -/
def coversSpec : ChangeSpec := { name := "covers", fn := fun _ => fun
  | [d1, d2, d3, d4] => { results := [.lit (.bool true)], args := [d1, d2, d3, d4] }
  | _ => none }
def coversRow : OpenClaim := { program := "ytopegpilfoajhaa", sum := "7e0a85405566099d17b4958c30962952f9a10dd744f510f02b5809663013b1d4", func := "glossary/glossarylaw.Covers", spec := "covers", apart := false }
def CoversSaid : Prop := coversRow.holds Try.pinned (OpenSpec.ofChange coversSpec)

/-- ITS FALSE NEIGHBOUR: 'it returns false'. Refute it at one input. -/
def coversWrong : ChangeSpec := { name := "covers", fn := fun _ => fun
  | [d1, d2, d3, d4] => { results := [.lit (.bool false)], args := [d1, d2, d3, d4] }
  | _ => none }
def CoversWrongFalsely : Prop := coversRow.holds Try.pinned (OpenSpec.ofChange coversWrong)

/-- 'glossarylaw.Writes': WHATEVER THE INPUT: true; the input reads as it did. -/
def writesSpec : ChangeSpec := { name := "writes", fn := fun _ => fun
  | [d1, d2, d3] => { results := [.lit (.bool true)], args := [d1, d2, d3] }
  | _ => none }
def writesRow : OpenClaim := { program := "ytopegpilfoajhaa", sum := "7e0a85405566099d17b4958c30962952f9a10dd744f510f02b5809663013b1d4", func := "glossary/glossarylaw.Writes", spec := "writes", apart := false }
def WritesSaid : Prop := writesRow.holds Try.pinned (OpenSpec.ofChange writesSpec)

/-- ITS FALSE NEIGHBOUR: 'it returns false'. Refute it at one input. -/
def writesWrong : ChangeSpec := { name := "writes", fn := fun _ => fun
  | [d1, d2, d3] => { results := [.lit (.bool false)], args := [d1, d2, d3] }
  | _ => none }
def WritesWrongFalsely : Prop := writesRow.holds Try.pinned (OpenSpec.ofChange writesWrong)

/-- 'glossarylaw.Parses': WHATEVER THE INPUT: true; the input reads as it did. -/
def parsesSpec : ChangeSpec := { name := "parses", fn := fun _ => fun
  | [d] => { results := [.lit (.bool true)], args := [d] }
  | _ => none }
def parsesRow : OpenClaim := { program := "ytopegpilfoajhaa", sum := "7e0a85405566099d17b4958c30962952f9a10dd744f510f02b5809663013b1d4", func := "glossary/glossarylaw.Parses", spec := "parses", apart := false }
def ParsesSaid : Prop := parsesRow.holds Try.pinned (OpenSpec.ofChange parsesSpec)

/-- ITS FALSE NEIGHBOUR: 'it returns false'. Refute it at one input. -/
def parsesWrong : ChangeSpec := { name := "parses", fn := fun _ => fun
  | [d] => { results := [.lit (.bool false)], args := [d] }
  | _ => none }
def ParsesWrongFalsely : Prop := parsesRow.holds Try.pinned (OpenSpec.ofChange parsesWrong)

/-- 'glossarylaw.Trains': WHATEVER THE INPUT: true; the input reads as it did. -/
def trainsSpec : ChangeSpec := { name := "trains", fn := fun _ => fun
  | [d1, d2, d3, d4, d5] => { results := [.lit (.bool true)], args := [d1, d2, d3, d4, d5] }
  | _ => none }
def trainsRow : OpenClaim := { program := "ytopegpilfoajhaa", sum := "7e0a85405566099d17b4958c30962952f9a10dd744f510f02b5809663013b1d4", func := "glossary/glossarylaw.Trains", spec := "trains", apart := false }
def TrainsSaid : Prop := trainsRow.holds Try.pinned (OpenSpec.ofChange trainsSpec)

/-- ITS FALSE NEIGHBOUR: 'it returns false'. Refute it at one input. -/
def trainsWrong : ChangeSpec := { name := "trains", fn := fun _ => fun
  | [d1, d2, d3, d4, d5] => { results := [.lit (.bool false)], args := [d1, d2, d3, d4, d5] }
  | _ => none }
def TrainsWrongFalsely : Prop := trainsRow.holds Try.pinned (OpenSpec.ofChange trainsWrong)

/-- 'glossarykeep.Gathered': WHATEVER THE INPUT: true; the input reads as it did. -/
def gatheredSpec : ChangeSpec := { name := "gathered", fn := fun _ => fun
  | [d1, d2, d3, d4] => { results := [.lit (.bool true)], args := [d1, d2, d3, d4] }
  | _ => none }
def gatheredRow : OpenClaim := { program := "ytopegpilfoajhaa", sum := "7e0a85405566099d17b4958c30962952f9a10dd744f510f02b5809663013b1d4", func := "glossary/glossarykeep.Gathered", spec := "gathered", apart := false }
def GatheredSaid : Prop := gatheredRow.holds Try.pinned (OpenSpec.ofChange gatheredSpec)

/-- ITS FALSE NEIGHBOUR: 'it returns false'. Refute it at one input. -/
def gatheredWrong : ChangeSpec := { name := "gathered", fn := fun _ => fun
  | [d1, d2, d3, d4] => { results := [.lit (.bool false)], args := [d1, d2, d3, d4] }
  | _ => none }
def GatheredWrongFalsely : Prop := gatheredRow.holds Try.pinned (OpenSpec.ofChange gatheredWrong)

/-- 'glossarykeep.Reread': WHATEVER THE INPUT: true; the input reads as it did. -/
def rereadSpec : ChangeSpec := { name := "reread", fn := fun _ => fun
  | [d] => { results := [.lit (.bool true)], args := [d] }
  | _ => none }
def rereadRow : OpenClaim := { program := "ytopegpilfoajhaa", sum := "7e0a85405566099d17b4958c30962952f9a10dd744f510f02b5809663013b1d4", func := "glossary/glossarykeep.Reread", spec := "reread", apart := false }
def RereadSaid : Prop := rereadRow.holds Try.pinned (OpenSpec.ofChange rereadSpec)

/-- ITS FALSE NEIGHBOUR: 'it returns false'. Refute it at one input. -/
def rereadWrong : ChangeSpec := { name := "reread", fn := fun _ => fun
  | [d] => { results := [.lit (.bool false)], args := [d] }
  | _ => none }
def RereadWrongFalsely : Prop := rereadRow.holds Try.pinned (OpenSpec.ofChange rereadWrong)

/- THE SECOND FORM. 'bulk': how many values and letters a reading holds, each counted each time it is reached (what is shared counts as often as it is met; a slice's spare places count too). A statement '..UptoSaid' is the law's where the arguments, and the package variables that the reading takes, are together of bulk at most 1048576: NARROWER than '..Said'. Prove '..Said' where nothing that the law and all that it calls make is longer than what came in: it says more and counts as full. Else prove '..UptoSaid'. A law counts once. -/
mutual
def uptoBulk {H : Type} : DataW H → Nat
  | .lit (.string bytes) => bytes.length + 1
  | .lit _ => 1
  | .nil => 1
  | .ptr d => uptoBulk d + 1
  | .slice elems spare => uptoBulkAll elems + uptoBulkAll spare + 1
  | .agg parts => uptoBulkAll parts + 1
  | .iface _ d => uptoBulk d + 1
  | .map entries => uptoBulkEntries entries + 1
  | .held _ => 1
def uptoBulkAll {H : Type} : List (DataW H) → Nat
  | [] => 0
  | d :: r => uptoBulk d + uptoBulkAll r
def uptoBulkEntries {H : Type} : List (Lit × DataW H) → Nat
  | [] => 0
  | x :: r => uptoBulkEntry x + uptoBulkEntries r
def uptoBulkEntry {H : Type} : Lit × DataW H → Nat
  | (.string bytes, d) => bytes.length + uptoBulk d + 1
  | (_, d) => uptoBulk d + 1
 end
def uptoSmall : (H : Type) → List (DataW H) → Bool := fun _ ds => decide (uptoBulkAll ds ≤ 1048576)
def OpenSpec.upto (s : _root_.Go.ChangeSpec) : _root_.Go.OpenSpec := { _root_.Go.OpenSpec.ofChange s with cond := some uptoSmall }

/-- 'glossarylaw.Sums', WHERE WHAT IT READS IS OF BULK AT MOST 1048576: true; the input reads as it did. -/
def sumsUptoRow : OpenClaim := { program := "ytopegpilfoajhaa", sum := "7e0a85405566099d17b4958c30962952f9a10dd744f510f02b5809663013b1d4", func := "glossary/glossarylaw.Sums", spec := "sums", apart := false, narrowed := true }
def SumsUptoSaid : Prop := sumsUptoRow.holds Try.pinned (OpenSpec.upto sumsSpec)

/-- 'glossarylaw.Tables', WHERE WHAT IT READS IS OF BULK AT MOST 1048576: true; the input reads as it did. -/
def tablesUptoRow : OpenClaim := { program := "ytopegpilfoajhaa", sum := "7e0a85405566099d17b4958c30962952f9a10dd744f510f02b5809663013b1d4", func := "glossary/glossarylaw.Tables", spec := "tables", apart := false, narrowed := true }
def TablesUptoSaid : Prop := tablesUptoRow.holds Try.pinned (OpenSpec.upto tablesSpec)

/-- 'glossarylaw.Squeezes', WHERE WHAT IT READS IS OF BULK AT MOST 1048576: true; the input reads as it did. -/
def squeezesUptoRow : OpenClaim := { program := "ytopegpilfoajhaa", sum := "7e0a85405566099d17b4958c30962952f9a10dd744f510f02b5809663013b1d4", func := "glossary/glossarylaw.Squeezes", spec := "squeezes", apart := false, narrowed := true }
def SqueezesUptoSaid : Prop := squeezesUptoRow.holds Try.pinned (OpenSpec.upto squeezesSpec)

/-- 'glossarylaw.Unsqueezes', WHERE WHAT IT READS IS OF BULK AT MOST 1048576: true; the input reads as it did. -/
def unsqueezesUptoRow : OpenClaim := { program := "ytopegpilfoajhaa", sum := "7e0a85405566099d17b4958c30962952f9a10dd744f510f02b5809663013b1d4", func := "glossary/glossarylaw.Unsqueezes", spec := "unsqueezes", apart := false, narrowed := true }
def UnsqueezesUptoSaid : Prop := unsqueezesUptoRow.holds Try.pinned (OpenSpec.upto unsqueezesSpec)

/-- 'glossarykeep.Back', WHERE WHAT IT READS IS OF BULK AT MOST 1048576: true; the input reads as it did. -/
def backUptoRow : OpenClaim := { program := "ytopegpilfoajhaa", sum := "7e0a85405566099d17b4958c30962952f9a10dd744f510f02b5809663013b1d4", func := "glossary/glossarykeep.Back", spec := "back", apart := false, narrowed := true }
def BackUptoSaid : Prop := backUptoRow.holds Try.pinned (OpenSpec.upto backSpec)

/-- 'glossarykeep.Canon', WHERE WHAT IT READS IS OF BULK AT MOST 1048576: true; the input reads as it did. -/
def canonUptoRow : OpenClaim := { program := "ytopegpilfoajhaa", sum := "7e0a85405566099d17b4958c30962952f9a10dd744f510f02b5809663013b1d4", func := "glossary/glossarykeep.Canon", spec := "canon", apart := false, narrowed := true }
def CanonUptoSaid : Prop := canonUptoRow.holds Try.pinned (OpenSpec.upto canonSpec)

/-- 'glossarylaw.Covers', WHERE WHAT IT READS IS OF BULK AT MOST 1048576: true; the input reads as it did. -/
def coversUptoRow : OpenClaim := { program := "ytopegpilfoajhaa", sum := "7e0a85405566099d17b4958c30962952f9a10dd744f510f02b5809663013b1d4", func := "glossary/glossarylaw.Covers", spec := "covers", apart := false, narrowed := true }
def CoversUptoSaid : Prop := coversUptoRow.holds Try.pinned (OpenSpec.upto coversSpec)

/-- 'glossarylaw.Writes', WHERE WHAT IT READS IS OF BULK AT MOST 1048576: true; the input reads as it did. -/
def writesUptoRow : OpenClaim := { program := "ytopegpilfoajhaa", sum := "7e0a85405566099d17b4958c30962952f9a10dd744f510f02b5809663013b1d4", func := "glossary/glossarylaw.Writes", spec := "writes", apart := false, narrowed := true }
def WritesUptoSaid : Prop := writesUptoRow.holds Try.pinned (OpenSpec.upto writesSpec)

/-- 'glossarylaw.Parses', WHERE WHAT IT READS IS OF BULK AT MOST 1048576: true; the input reads as it did. -/
def parsesUptoRow : OpenClaim := { program := "ytopegpilfoajhaa", sum := "7e0a85405566099d17b4958c30962952f9a10dd744f510f02b5809663013b1d4", func := "glossary/glossarylaw.Parses", spec := "parses", apart := false, narrowed := true }
def ParsesUptoSaid : Prop := parsesUptoRow.holds Try.pinned (OpenSpec.upto parsesSpec)

/-- 'glossarylaw.Trains', WHERE WHAT IT READS IS OF BULK AT MOST 1048576: true; the input reads as it did. -/
def trainsUptoRow : OpenClaim := { program := "ytopegpilfoajhaa", sum := "7e0a85405566099d17b4958c30962952f9a10dd744f510f02b5809663013b1d4", func := "glossary/glossarylaw.Trains", spec := "trains", apart := false, narrowed := true }
def TrainsUptoSaid : Prop := trainsUptoRow.holds Try.pinned (OpenSpec.upto trainsSpec)

/-- 'glossarykeep.Gathered', WHERE WHAT IT READS IS OF BULK AT MOST 1048576: true; the input reads as it did. -/
def gatheredUptoRow : OpenClaim := { program := "ytopegpilfoajhaa", sum := "7e0a85405566099d17b4958c30962952f9a10dd744f510f02b5809663013b1d4", func := "glossary/glossarykeep.Gathered", spec := "gathered", apart := false, narrowed := true }
def GatheredUptoSaid : Prop := gatheredUptoRow.holds Try.pinned (OpenSpec.upto gatheredSpec)

/-- 'glossarykeep.Reread', WHERE WHAT IT READS IS OF BULK AT MOST 1048576: true; the input reads as it did. -/
def rereadUptoRow : OpenClaim := { program := "ytopegpilfoajhaa", sum := "7e0a85405566099d17b4958c30962952f9a10dd744f510f02b5809663013b1d4", func := "glossary/glossarykeep.Reread", spec := "reread", apart := false, narrowed := true }
def RereadUptoSaid : Prop := rereadUptoRow.holds Try.pinned (OpenSpec.upto rereadSpec)

end Rows
end Go.Proofs.Ytopegpilfoajhaa

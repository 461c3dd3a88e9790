/-
  No cell of these rows narrows 'for every input' (looked for: loops, veiled, ifaces, maps, wideKeys, modest, calm, conditions, laid).
  DERIVED. THE GIVEN ROWS OF THIS SEAT. 9 by the template 'for every input the law returns true; each argument reads behind the call as it read before'; 0 by the template 'total and deterministic' (their statements: YtdpaambflachfaaTotals.lean).
  GIVEN WITH THE SEED: the statements are not yours to turn. If you find one false, say at which input.
  Laid BY PROGRAM, IN A SANDBOX (cutbox-rows.mjs): the forced cells as the released guide's own fill.sh prints them over the translation c92f3f56530c3205… (all of the seat's roots in one cut). By AI agents, Wed Nov 11 2026. No macro, syntax, notation, axiom, sorry.
-/
import Derived.Test.YtdpaambflachfaaChecked
import GoSem.Claim
import GoSem.ClaimJoined
import GoSem.ClaimMapViews
import Derived.JoinedTies
import Derived.KernelRfl
namespace Go.Proofs.Ytdpaambflachfaa
/- THE CELL 'sum', in the pinned program and in every row, IS THE sha256 OF THE DUMP (.gsa) THAT YtdpaambflachfaaProg.lean LOADS. Nothing in Lean hashes anything: it is a label: what it is worth is what the hold of that sum in a sandbox is worth. -/
noncomputable def Try.pinned : Pinned := { name := "ytdpaambflachfaa", sum := "c92f3f56530c3205836fdce9ead3bc6f10d30f97fdfc5659cd86e89e08fab0ff", checked := Try.checked }
namespace Rows
def none {H : Type} : Left H := { results := [], args := [] }

/-- 'glossarylaw.Tables': WHATEVER THE INPUT: true; the input reads as it did. -/
def tablesSpec : ChangeSpec := { name := "tables", fn := fun _ => fun
  | [d] => { results := [.lit (.bool true)], args := [d] }
  | _ => none }
def tablesRow : OpenClaim := { program := "ytdpaambflachfaa", sum := "c92f3f56530c3205836fdce9ead3bc6f10d30f97fdfc5659cd86e89e08fab0ff", func := "glossary/glossarylaw.Tables", spec := "tables", apart := false }
def TablesSaid : Prop := tablesRow.holds Try.pinned (OpenSpec.ofChange tablesSpec)

/-- ITS FALSE NEIGHBOUR: 'it returns false'. Refute it at one input. -/
def tablesWrong : ChangeSpec := { name := "tables", fn := fun _ => fun
  | [d] => { results := [.lit (.bool false)], args := [d] }
  | _ => none }
def TablesWrongFalsely : Prop := tablesRow.holds Try.pinned (OpenSpec.ofChange tablesWrong)

/-- 'glossarylaw.Squeezes': WHATEVER THE INPUT: true; the input reads as it did. -/
def squeezesSpec : ChangeSpec := { name := "squeezes", fn := fun _ => fun
  | [d1, d2] => { results := [.lit (.bool true)], args := [d1, d2] }
  | _ => none }
def squeezesRow : OpenClaim := { program := "ytdpaambflachfaa", sum := "c92f3f56530c3205836fdce9ead3bc6f10d30f97fdfc5659cd86e89e08fab0ff", func := "glossary/glossarylaw.Squeezes", spec := "squeezes", apart := false }
def SqueezesSaid : Prop := squeezesRow.holds Try.pinned (OpenSpec.ofChange squeezesSpec)

/-- ITS FALSE NEIGHBOUR: 'it returns false'. Refute it at one input. -/
def squeezesWrong : ChangeSpec := { name := "squeezes", fn := fun _ => fun
  | [d1, d2] => { results := [.lit (.bool false)], args := [d1, d2] }
  | _ => none }
def SqueezesWrongFalsely : Prop := squeezesRow.holds Try.pinned (OpenSpec.ofChange squeezesWrong)

/-- 'glossarylaw.Unsqueezes': WHATEVER THE INPUT: true; the input reads as it did. -/
def unsqueezesSpec : ChangeSpec := { name := "unsqueezes", fn := fun _ => fun
  | [d1, d2, d3] => { results := [.lit (.bool true)], args := [d1, d2, d3] }
  | _ => none }
def unsqueezesRow : OpenClaim := { program := "ytdpaambflachfaa", sum := "c92f3f56530c3205836fdce9ead3bc6f10d30f97fdfc5659cd86e89e08fab0ff", func := "glossary/glossarylaw.Unsqueezes", spec := "unsqueezes", apart := false }
def UnsqueezesSaid : Prop := unsqueezesRow.holds Try.pinned (OpenSpec.ofChange unsqueezesSpec)

/-- ITS FALSE NEIGHBOUR: 'it returns false'. Refute it at one input. -/
def unsqueezesWrong : ChangeSpec := { name := "unsqueezes", fn := fun _ => fun
  | [d1, d2, d3] => { results := [.lit (.bool false)], args := [d1, d2, d3] }
  | _ => none }
def UnsqueezesWrongFalsely : Prop := unsqueezesRow.holds Try.pinned (OpenSpec.ofChange unsqueezesWrong)

/-- 'glossarylaw.Writes': WHATEVER THE INPUT: true; the input reads as it did. -/
def writesSpec : ChangeSpec := { name := "writes", fn := fun _ => fun
  | [d1, d2, d3] => { results := [.lit (.bool true)], args := [d1, d2, d3] }
  | _ => none }
def writesRow : OpenClaim := { program := "ytdpaambflachfaa", sum := "c92f3f56530c3205836fdce9ead3bc6f10d30f97fdfc5659cd86e89e08fab0ff", func := "glossary/glossarylaw.Writes", spec := "writes", apart := false }
def WritesSaid : Prop := writesRow.holds Try.pinned (OpenSpec.ofChange writesSpec)

/-- ITS FALSE NEIGHBOUR: 'it returns false'. Refute it at one input. -/
def writesWrong : ChangeSpec := { name := "writes", fn := fun _ => fun
  | [d1, d2, d3] => { results := [.lit (.bool false)], args := [d1, d2, d3] }
  | _ => none }
def WritesWrongFalsely : Prop := writesRow.holds Try.pinned (OpenSpec.ofChange writesWrong)

/-- 'glossarylaw.Parses': WHATEVER THE INPUT: true; the input reads as it did. -/
def parsesSpec : ChangeSpec := { name := "parses", fn := fun _ => fun
  | [d] => { results := [.lit (.bool true)], args := [d] }
  | _ => none }
def parsesRow : OpenClaim := { program := "ytdpaambflachfaa", sum := "c92f3f56530c3205836fdce9ead3bc6f10d30f97fdfc5659cd86e89e08fab0ff", func := "glossary/glossarylaw.Parses", spec := "parses", apart := false }
def ParsesSaid : Prop := parsesRow.holds Try.pinned (OpenSpec.ofChange parsesSpec)

/-- ITS FALSE NEIGHBOUR: 'it returns false'. Refute it at one input. -/
def parsesWrong : ChangeSpec := { name := "parses", fn := fun _ => fun
  | [d] => { results := [.lit (.bool false)], args := [d] }
  | _ => none }
def ParsesWrongFalsely : Prop := parsesRow.holds Try.pinned (OpenSpec.ofChange parsesWrong)

/-- 'glossarylaw.Encodes': WHATEVER THE INPUT: true; the input reads as it did. -/
def encodesSpec : ChangeSpec := { name := "encodes", fn := fun _ => fun
  | [d1, d2] => { results := [.lit (.bool true)], args := [d1, d2] }
  | _ => none }
def encodesRow : OpenClaim := { program := "ytdpaambflachfaa", sum := "c92f3f56530c3205836fdce9ead3bc6f10d30f97fdfc5659cd86e89e08fab0ff", func := "glossary/glossarylaw.Encodes", spec := "encodes", apart := false }
def EncodesSaid : Prop := encodesRow.holds Try.pinned (OpenSpec.ofChange encodesSpec)

/-- ITS FALSE NEIGHBOUR: 'it returns false'. Refute it at one input. -/
def encodesWrong : ChangeSpec := { name := "encodes", fn := fun _ => fun
  | [d1, d2] => { results := [.lit (.bool false)], args := [d1, d2] }
  | _ => none }
def EncodesWrongFalsely : Prop := encodesRow.holds Try.pinned (OpenSpec.ofChange encodesWrong)

/-- 'glossarylaw.Decodes': WHATEVER THE INPUT: true; the input reads as it did. -/
def decodesSpec : ChangeSpec := { name := "decodes", fn := fun _ => fun
  | [d1, d2] => { results := [.lit (.bool true)], args := [d1, d2] }
  | _ => none }
def decodesRow : OpenClaim := { program := "ytdpaambflachfaa", sum := "c92f3f56530c3205836fdce9ead3bc6f10d30f97fdfc5659cd86e89e08fab0ff", func := "glossary/glossarylaw.Decodes", spec := "decodes", apart := false }
def DecodesSaid : Prop := decodesRow.holds Try.pinned (OpenSpec.ofChange decodesSpec)

/-- ITS FALSE NEIGHBOUR: 'it returns false'. Refute it at one input. -/
def decodesWrong : ChangeSpec := { name := "decodes", fn := fun _ => fun
  | [d1, d2] => { results := [.lit (.bool false)], args := [d1, d2] }
  | _ => none }
def DecodesWrongFalsely : Prop := decodesRow.holds Try.pinned (OpenSpec.ofChange decodesWrong)

/-- 'glossarykeep.Restored': WHATEVER THE INPUT: true; the input reads as it did. -/
def restoredSpec : ChangeSpec := { name := "restored", fn := fun _ => fun
  | [d1, d2, d3, d4, d5] => { results := [.lit (.bool true)], args := [d1, d2, d3, d4, d5] }
  | _ => none }
def restoredRow : OpenClaim := { program := "ytdpaambflachfaa", sum := "c92f3f56530c3205836fdce9ead3bc6f10d30f97fdfc5659cd86e89e08fab0ff", func := "glossary/glossarykeep.Restored", spec := "restored", apart := false }
def RestoredSaid : Prop := restoredRow.holds Try.pinned (OpenSpec.ofChange restoredSpec)

/-- ITS FALSE NEIGHBOUR: 'it returns false'. Refute it at one input. -/
def restoredWrong : ChangeSpec := { name := "restored", fn := fun _ => fun
  | [d1, d2, d3, d4, d5] => { results := [.lit (.bool false)], args := [d1, d2, d3, d4, d5] }
  | _ => none }
def RestoredWrongFalsely : Prop := restoredRow.holds Try.pinned (OpenSpec.ofChange restoredWrong)

/-- 'glossarykeep.Short': WHATEVER THE INPUT: true; the input reads as it did. -/
def shortSpec : ChangeSpec := { name := "short", fn := fun _ => fun
  | [d1, d2, d3, d4, d5] => { results := [.lit (.bool true)], args := [d1, d2, d3, d4, d5] }
  | _ => none }
def shortRow : OpenClaim := { program := "ytdpaambflachfaa", sum := "c92f3f56530c3205836fdce9ead3bc6f10d30f97fdfc5659cd86e89e08fab0ff", func := "glossary/glossarykeep.Short", spec := "short", apart := false }
def ShortSaid : Prop := shortRow.holds Try.pinned (OpenSpec.ofChange shortSpec)

/-- ITS FALSE NEIGHBOUR: 'it returns false'. Refute it at one input. -/
def shortWrong : ChangeSpec := { name := "short", fn := fun _ => fun
  | [d1, d2, d3, d4, d5] => { results := [.lit (.bool false)], args := [d1, d2, d3, d4, d5] }
  | _ => none }
def ShortWrongFalsely : Prop := shortRow.holds Try.pinned (OpenSpec.ofChange shortWrong)

/- THE SECOND FORM. 'bulk': how many values and letters a reading holds, each counted each time it is reached (what is shared counts as often as it is met; a slice's spare places count too). A statement '..UptoSaid' is the law's where the arguments, and the package variables that the reading takes, are together of bulk at most 1048576: NARROWER than '..Said'. Prove '..Said' where nothing that the law and all that it calls make is longer than what came in: it says more and counts as full. Else prove '..UptoSaid'. A law counts once. -/
mutual
def uptoBulk {H : Type} : DataW H → Nat
  | .lit (.string bytes) => bytes.length + 1
  | .lit _ => 1
  | .nil => 1
  | .ptr d => uptoBulk d + 1
  | .slice elems spare => uptoBulkAll elems + uptoBulkAll spare + 1
  | .agg parts => uptoBulkAll parts + 1
  | .iface _ d => uptoBulk d + 1
  | .map entries => uptoBulkEntries entries + 1
  | .held _ => 1
def uptoBulkAll {H : Type} : List (DataW H) → Nat
  | [] => 0
  | d :: r => uptoBulk d + uptoBulkAll r
def uptoBulkEntries {H : Type} : List (Lit × DataW H) → Nat
  | [] => 0
  | x :: r => uptoBulkEntry x + uptoBulkEntries r
def uptoBulkEntry {H : Type} : Lit × DataW H → Nat
  | (.string bytes, d) => bytes.length + uptoBulk d + 1
  | (_, d) => uptoBulk d + 1
 end
def uptoSmall : (H : Type) → List (DataW H) → Bool := fun _ ds => decide (uptoBulkAll ds ≤ 1048576)
def OpenSpec.upto (s : _root_.Go.ChangeSpec) : _root_.Go.OpenSpec := { _root_.Go.OpenSpec.ofChange s with cond := some uptoSmall }

/-- 'glossarylaw.Tables', WHERE WHAT IT READS IS OF BULK AT MOST 1048576: true; the input reads as it did. -/
def tablesUptoRow : OpenClaim := { program := "ytdpaambflachfaa", sum := "c92f3f56530c3205836fdce9ead3bc6f10d30f97fdfc5659cd86e89e08fab0ff", func := "glossary/glossarylaw.Tables", spec := "tables", apart := false, narrowed := true }
def TablesUptoSaid : Prop := tablesUptoRow.holds Try.pinned (OpenSpec.upto tablesSpec)

/-- 'glossarylaw.Squeezes', WHERE WHAT IT READS IS OF BULK AT MOST 1048576: true; the input reads as it did. -/
def squeezesUptoRow : OpenClaim := { program := "ytdpaambflachfaa", sum := "c92f3f56530c3205836fdce9ead3bc6f10d30f97fdfc5659cd86e89e08fab0ff", func := "glossary/glossarylaw.Squeezes", spec := "squeezes", apart := false, narrowed := true }
def SqueezesUptoSaid : Prop := squeezesUptoRow.holds Try.pinned (OpenSpec.upto squeezesSpec)

/-- 'glossarylaw.Unsqueezes', WHERE WHAT IT READS IS OF BULK AT MOST 1048576: true; the input reads as it did. -/
def unsqueezesUptoRow : OpenClaim := { program := "ytdpaambflachfaa", sum := "c92f3f56530c3205836fdce9ead3bc6f10d30f97fdfc5659cd86e89e08fab0ff", func := "glossary/glossarylaw.Unsqueezes", spec := "unsqueezes", apart := false, narrowed := true }
def UnsqueezesUptoSaid : Prop := unsqueezesUptoRow.holds Try.pinned (OpenSpec.upto unsqueezesSpec)

/-- 'glossarylaw.Writes', WHERE WHAT IT READS IS OF BULK AT MOST 1048576: true; the input reads as it did. -/
def writesUptoRow : OpenClaim := { program := "ytdpaambflachfaa", sum := "c92f3f56530c3205836fdce9ead3bc6f10d30f97fdfc5659cd86e89e08fab0ff", func := "glossary/glossarylaw.Writes", spec := "writes", apart := false, narrowed := true }
def WritesUptoSaid : Prop := writesUptoRow.holds Try.pinned (OpenSpec.upto writesSpec)

/-- 'glossarylaw.Parses', WHERE WHAT IT READS IS OF BULK AT MOST 1048576: true; the input reads as it did. -/
def parsesUptoRow : OpenClaim := { program := "ytdpaambflachfaa", sum := "c92f3f56530c3205836fdce9ead3bc6f10d30f97fdfc5659cd86e89e08fab0ff", func := "glossary/glossarylaw.Parses", spec := "parses", apart := false, narrowed := true }
def ParsesUptoSaid : Prop := parsesUptoRow.holds Try.pinned (OpenSpec.upto parsesSpec)

/-- 'glossarylaw.Encodes', WHERE WHAT IT READS IS OF BULK AT MOST 1048576: true; the input reads as it did. -/
def encodesUptoRow : OpenClaim := { program := "ytdpaambflachfaa", sum := "c92f3f56530c3205836fdce9ead3bc6f10d30f97fdfc5659cd86e89e08fab0ff", func := "glossary/glossarylaw.Encodes", spec := "encodes", apart := false, narrowed := true }
def EncodesUptoSaid : Prop := encodesUptoRow.holds Try.pinned (OpenSpec.upto encodesSpec)

/-- 'glossarylaw.Decodes', WHERE WHAT IT READS IS OF BULK AT MOST 1048576: true; the input reads as it did. -/
def decodesUptoRow : OpenClaim := { program := "ytdpaambflachfaa", sum := "c92f3f56530c3205836fdce9ead3bc6f10d30f97fdfc5659cd86e89e08fab0ff", func := "glossary/glossarylaw.Decodes", spec := "decodes", apart := false, narrowed := true }
def DecodesUptoSaid : Prop := decodesUptoRow.holds Try.pinned (OpenSpec.upto decodesSpec)

/-- 'glossarykeep.Restored', WHERE WHAT IT READS IS OF BULK AT MOST 1048576: true; the input reads as it did. -/
def restoredUptoRow : OpenClaim := { program := "ytdpaambflachfaa", sum := "c92f3f56530c3205836fdce9ead3bc6f10d30f97fdfc5659cd86e89e08fab0ff", func := "glossary/glossarykeep.Restored", spec := "restored", apart := false, narrowed := true }
def RestoredUptoSaid : Prop := restoredUptoRow.holds Try.pinned (OpenSpec.upto restoredSpec)

/-- 'glossarykeep.Short', WHERE WHAT IT READS IS OF BULK AT MOST 1048576: true; the input reads as it did. -/
def shortUptoRow : OpenClaim := { program := "ytdpaambflachfaa", sum := "c92f3f56530c3205836fdce9ead3bc6f10d30f97fdfc5659cd86e89e08fab0ff", func := "glossary/glossarykeep.Short", spec := "short", apart := false, narrowed := true }
def ShortUptoSaid : Prop := shortUptoRow.holds Try.pinned (OpenSpec.upto shortSpec)

end Rows
end Go.Proofs.Ytdpaambflachfaa

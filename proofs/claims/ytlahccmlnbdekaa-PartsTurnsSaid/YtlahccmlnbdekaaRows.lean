/-
  No cell of these rows narrows 'for every input' (looked for: loops, veiled, ifaces, maps, wideKeys, modest, calm, conditions, laid).
  DERIVED. THE GIVEN ROWS OF THIS SEAT. 7 by the template 'for every input the law returns true; each argument reads behind the call as it read before'; 0 by the template 'total and deterministic' (their statements: YtlahccmlnbdekaaTotals.lean).
  GIVEN WITH THE SEED: the statements are not yours to turn. If you find one false, say at which input.
  Laid BY PROGRAM, IN A SANDBOX (cutbox-rows.mjs): the forced cells as the released guide's own fill.sh prints them over the translation 93ca57ad126ffcd7… (all of the seat's roots in one cut). By AI agents, Wed Nov 11 2026. No macro, syntax, notation, axiom, sorry.
-/
import Derived.Test.YtlahccmlnbdekaaChecked
import GoSem.Claim
import GoSem.ClaimJoined
import GoSem.ClaimMapViews
import Derived.JoinedTies
import Derived.KernelRfl
namespace Go.Proofs.Ytlahccmlnbdekaa
/- THE CELL 'sum', in the pinned program and in every row, IS THE sha256 OF THE DUMP (.gsa) THAT YtlahccmlnbdekaaProg.lean LOADS. Nothing in Lean hashes anything: it is a label: what it is worth is what the hold of that sum in a sandbox is worth. -/
noncomputable def Try.pinned : Pinned := { name := "ytlahccmlnbdekaa", sum := "93ca57ad126ffcd728a60a97bf73284d4fd705c73cf20e8cbbe8b3df97d21816", checked := Try.checked }
namespace Rows
def none {H : Type} : Left H := { results := [], args := [] }

/-- 'cellarerlaw08.PartsLays': WHATEVER THE INPUT: true; the input reads as it did. -/
def partsLaysSpec : ChangeSpec := { name := "partsLays", fn := fun _ => fun
  | [d1, d2, d3] => { results := [.lit (.bool true)], args := [d1, d2, d3] }
  | _ => none }
def partsLaysRow : OpenClaim := { program := "ytlahccmlnbdekaa", sum := "93ca57ad126ffcd728a60a97bf73284d4fd705c73cf20e8cbbe8b3df97d21816", func := "cellarer/cellarerlaw08.PartsLays", spec := "partsLays", inPlace := ["internal/abi.NoEscape"], unfollowed := true, recurses := true, apart := false }
def PartsLaysSaid : Prop := partsLaysRow.holds Try.pinned (OpenSpec.ofChange partsLaysSpec)

/-- ITS FALSE NEIGHBOUR: 'it returns false'. Refute it at one input. -/
def partsLaysWrong : ChangeSpec := { name := "partsLays", fn := fun _ => fun
  | [d1, d2, d3] => { results := [.lit (.bool false)], args := [d1, d2, d3] }
  | _ => none }
def PartsLaysWrongFalsely : Prop := partsLaysRow.holds Try.pinned (OpenSpec.ofChange partsLaysWrong)

/-- 'cellarerlaw08.PartsBegins': WHATEVER THE INPUT: true; the input reads as it did. -/
def partsBeginsSpec : ChangeSpec := { name := "partsBegins", fn := fun _ => fun
  | [d1, d2, d3] => { results := [.lit (.bool true)], args := [d1, d2, d3] }
  | _ => none }
def partsBeginsRow : OpenClaim := { program := "ytlahccmlnbdekaa", sum := "93ca57ad126ffcd728a60a97bf73284d4fd705c73cf20e8cbbe8b3df97d21816", func := "cellarer/cellarerlaw08.PartsBegins", spec := "partsBegins", inPlace := ["internal/abi.NoEscape"], unfollowed := true, recurses := true, apart := false }
def PartsBeginsSaid : Prop := partsBeginsRow.holds Try.pinned (OpenSpec.ofChange partsBeginsSpec)

/-- ITS FALSE NEIGHBOUR: 'it returns false'. Refute it at one input. -/
def partsBeginsWrong : ChangeSpec := { name := "partsBegins", fn := fun _ => fun
  | [d1, d2, d3] => { results := [.lit (.bool false)], args := [d1, d2, d3] }
  | _ => none }
def PartsBeginsWrongFalsely : Prop := partsBeginsRow.holds Try.pinned (OpenSpec.ofChange partsBeginsWrong)

/-- 'cellarerlaw08.PartsWholes': WHATEVER THE INPUT: true; the input reads as it did. -/
def partsWholesSpec : ChangeSpec := { name := "partsWholes", fn := fun _ => fun
  | [d1, d2] => { results := [.lit (.bool true)], args := [d1, d2] }
  | _ => none }
def partsWholesRow : OpenClaim := { program := "ytlahccmlnbdekaa", sum := "93ca57ad126ffcd728a60a97bf73284d4fd705c73cf20e8cbbe8b3df97d21816", func := "cellarer/cellarerlaw08.PartsWholes", spec := "partsWholes", inPlace := ["internal/abi.NoEscape"], unfollowed := true, recurses := true, apart := false }
def PartsWholesSaid : Prop := partsWholesRow.holds Try.pinned (OpenSpec.ofChange partsWholesSpec)

/-- ITS FALSE NEIGHBOUR: 'it returns false'. Refute it at one input. -/
def partsWholesWrong : ChangeSpec := { name := "partsWholes", fn := fun _ => fun
  | [d1, d2] => { results := [.lit (.bool false)], args := [d1, d2] }
  | _ => none }
def PartsWholesWrongFalsely : Prop := partsWholesRow.holds Try.pinned (OpenSpec.ofChange partsWholesWrong)

/-- 'cellarerlaw08.PartsTurns': WHATEVER THE INPUT: true; the input reads as it did. -/
def partsTurnsSpec : ChangeSpec := { name := "partsTurns", fn := fun _ => fun
  | [d] => { results := [.lit (.bool true)], args := [d] }
  | _ => none }
def partsTurnsRow : OpenClaim := { program := "ytlahccmlnbdekaa", sum := "93ca57ad126ffcd728a60a97bf73284d4fd705c73cf20e8cbbe8b3df97d21816", func := "cellarer/cellarerlaw08.PartsTurns", spec := "partsTurns", inPlace := ["internal/abi.NoEscape"], unfollowed := true, recurses := true, apart := false }
def PartsTurnsSaid : Prop := partsTurnsRow.holds Try.pinned (OpenSpec.ofChange partsTurnsSpec)

/-- ITS FALSE NEIGHBOUR: 'it returns false'. Refute it at one input. -/
def partsTurnsWrong : ChangeSpec := { name := "partsTurns", fn := fun _ => fun
  | [d] => { results := [.lit (.bool false)], args := [d] }
  | _ => none }
def PartsTurnsWrongFalsely : Prop := partsTurnsRow.holds Try.pinned (OpenSpec.ofChange partsTurnsWrong)

/-- 'cellarerlaw08.PartsGone': WHATEVER THE INPUT: true; the input reads as it did. -/
def partsGoneSpec : ChangeSpec := { name := "partsGone", fn := fun _ => fun
  | [d1, d2, d3] => { results := [.lit (.bool true)], args := [d1, d2, d3] }
  | _ => none }
def partsGoneRow : OpenClaim := { program := "ytlahccmlnbdekaa", sum := "93ca57ad126ffcd728a60a97bf73284d4fd705c73cf20e8cbbe8b3df97d21816", func := "cellarer/cellarerlaw08.PartsGone", spec := "partsGone", inPlace := ["internal/abi.NoEscape"], unfollowed := true, recurses := true, apart := false }
def PartsGoneSaid : Prop := partsGoneRow.holds Try.pinned (OpenSpec.ofChange partsGoneSpec)

/-- ITS FALSE NEIGHBOUR: 'it returns false'. Refute it at one input. -/
def partsGoneWrong : ChangeSpec := { name := "partsGone", fn := fun _ => fun
  | [d1, d2, d3] => { results := [.lit (.bool false)], args := [d1, d2, d3] }
  | _ => none }
def PartsGoneWrongFalsely : Prop := partsGoneRow.holds Try.pinned (OpenSpec.ofChange partsGoneWrong)

/-- 'cellarerlaw08.PartsCounts': WHATEVER THE INPUT: true; the input reads as it did. -/
def partsCountsSpec : ChangeSpec := { name := "partsCounts", fn := fun _ => fun
  | [d1, d2, d3] => { results := [.lit (.bool true)], args := [d1, d2, d3] }
  | _ => none }
def partsCountsRow : OpenClaim := { program := "ytlahccmlnbdekaa", sum := "93ca57ad126ffcd728a60a97bf73284d4fd705c73cf20e8cbbe8b3df97d21816", func := "cellarer/cellarerlaw08.PartsCounts", spec := "partsCounts", inPlace := ["internal/abi.NoEscape"], unfollowed := true, recurses := true, apart := false }
def PartsCountsSaid : Prop := partsCountsRow.holds Try.pinned (OpenSpec.ofChange partsCountsSpec)

/-- ITS FALSE NEIGHBOUR: 'it returns false'. Refute it at one input. -/
def partsCountsWrong : ChangeSpec := { name := "partsCounts", fn := fun _ => fun
  | [d1, d2, d3] => { results := [.lit (.bool false)], args := [d1, d2, d3] }
  | _ => none }
def PartsCountsWrongFalsely : Prop := partsCountsRow.holds Try.pinned (OpenSpec.ofChange partsCountsWrong)

/-- 'cellarerlaw08.PartsPieces': WHATEVER THE INPUT: true; the input reads as it did. -/
def partsPiecesSpec : ChangeSpec := { name := "partsPieces", fn := fun _ => fun
  | [d1, d2, d3] => { results := [.lit (.bool true)], args := [d1, d2, d3] }
  | _ => none }
def partsPiecesRow : OpenClaim := { program := "ytlahccmlnbdekaa", sum := "93ca57ad126ffcd728a60a97bf73284d4fd705c73cf20e8cbbe8b3df97d21816", func := "cellarer/cellarerlaw08.PartsPieces", spec := "partsPieces", inPlace := ["internal/abi.NoEscape"], unfollowed := true, recurses := true, apart := false }
def PartsPiecesSaid : Prop := partsPiecesRow.holds Try.pinned (OpenSpec.ofChange partsPiecesSpec)

/-- ITS FALSE NEIGHBOUR: 'it returns false'. Refute it at one input. -/
def partsPiecesWrong : ChangeSpec := { name := "partsPieces", fn := fun _ => fun
  | [d1, d2, d3] => { results := [.lit (.bool false)], args := [d1, d2, d3] }
  | _ => none }
def PartsPiecesWrongFalsely : Prop := partsPiecesRow.holds Try.pinned (OpenSpec.ofChange partsPiecesWrong)

/- THE SECOND FORM. 'bulk': how many values and letters a reading holds, each counted each time it is reached (what is shared counts as often as it is met; a slice's spare places count too). A statement '..UptoSaid' is the law's where the arguments, and the package variables that the reading takes, are together of bulk at most 1048576: NARROWER than '..Said'. Prove '..Said' where nothing that the law and all that it calls make is longer than what came in: it says more and counts as full. Else prove '..UptoSaid'. A law counts once. -/
mutual
def uptoBulk {H : Type} : DataW H → Nat
  | .lit (.string bytes) => bytes.length + 1
  | .lit _ => 1
  | .nil => 1
  | .ptr d => uptoBulk d + 1
  | .slice elems spare => uptoBulkAll elems + uptoBulkAll spare + 1
  | .agg parts => uptoBulkAll parts + 1
  | .iface _ d => uptoBulk d + 1
  | .map entries => uptoBulkEntries entries + 1
  | .held _ => 1
def uptoBulkAll {H : Type} : List (DataW H) → Nat
  | [] => 0
  | d :: r => uptoBulk d + uptoBulkAll r
def uptoBulkEntries {H : Type} : List (Lit × DataW H) → Nat
  | [] => 0
  | x :: r => uptoBulkEntry x + uptoBulkEntries r
def uptoBulkEntry {H : Type} : Lit × DataW H → Nat
  | (.string bytes, d) => bytes.length + uptoBulk d + 1
  | (_, d) => uptoBulk d + 1
 end
def uptoSmall : (H : Type) → List (DataW H) → Bool := fun _ ds => decide (uptoBulkAll ds ≤ 1048576)
def OpenSpec.upto (s : _root_.Go.ChangeSpec) : _root_.Go.OpenSpec := { _root_.Go.OpenSpec.ofChange s with cond := some uptoSmall }

/-- 'cellarerlaw08.PartsLays', WHERE WHAT IT READS IS OF BULK AT MOST 1048576: true; the input reads as it did. -/
def partsLaysUptoRow : OpenClaim := { program := "ytlahccmlnbdekaa", sum := "93ca57ad126ffcd728a60a97bf73284d4fd705c73cf20e8cbbe8b3df97d21816", func := "cellarer/cellarerlaw08.PartsLays", spec := "partsLays", inPlace := ["internal/abi.NoEscape"], unfollowed := true, recurses := true, apart := false, narrowed := true }
def PartsLaysUptoSaid : Prop := partsLaysUptoRow.holds Try.pinned (OpenSpec.upto partsLaysSpec)

/-- 'cellarerlaw08.PartsBegins', WHERE WHAT IT READS IS OF BULK AT MOST 1048576: true; the input reads as it did. -/
def partsBeginsUptoRow : OpenClaim := { program := "ytlahccmlnbdekaa", sum := "93ca57ad126ffcd728a60a97bf73284d4fd705c73cf20e8cbbe8b3df97d21816", func := "cellarer/cellarerlaw08.PartsBegins", spec := "partsBegins", inPlace := ["internal/abi.NoEscape"], unfollowed := true, recurses := true, apart := false, narrowed := true }
def PartsBeginsUptoSaid : Prop := partsBeginsUptoRow.holds Try.pinned (OpenSpec.upto partsBeginsSpec)

/-- 'cellarerlaw08.PartsWholes', WHERE WHAT IT READS IS OF BULK AT MOST 1048576: true; the input reads as it did. -/
def partsWholesUptoRow : OpenClaim := { program := "ytlahccmlnbdekaa", sum := "93ca57ad126ffcd728a60a97bf73284d4fd705c73cf20e8cbbe8b3df97d21816", func := "cellarer/cellarerlaw08.PartsWholes", spec := "partsWholes", inPlace := ["internal/abi.NoEscape"], unfollowed := true, recurses := true, apart := false, narrowed := true }
def PartsWholesUptoSaid : Prop := partsWholesUptoRow.holds Try.pinned (OpenSpec.upto partsWholesSpec)

/-- 'cellarerlaw08.PartsTurns', WHERE WHAT IT READS IS OF BULK AT MOST 1048576: true; the input reads as it did. -/
def partsTurnsUptoRow : OpenClaim := { program := "ytlahccmlnbdekaa", sum := "93ca57ad126ffcd728a60a97bf73284d4fd705c73cf20e8cbbe8b3df97d21816", func := "cellarer/cellarerlaw08.PartsTurns", spec := "partsTurns", inPlace := ["internal/abi.NoEscape"], unfollowed := true, recurses := true, apart := false, narrowed := true }
def PartsTurnsUptoSaid : Prop := partsTurnsUptoRow.holds Try.pinned (OpenSpec.upto partsTurnsSpec)

/-- 'cellarerlaw08.PartsGone', WHERE WHAT IT READS IS OF BULK AT MOST 1048576: true; the input reads as it did. -/
def partsGoneUptoRow : OpenClaim := { program := "ytlahccmlnbdekaa", sum := "93ca57ad126ffcd728a60a97bf73284d4fd705c73cf20e8cbbe8b3df97d21816", func := "cellarer/cellarerlaw08.PartsGone", spec := "partsGone", inPlace := ["internal/abi.NoEscape"], unfollowed := true, recurses := true, apart := false, narrowed := true }
def PartsGoneUptoSaid : Prop := partsGoneUptoRow.holds Try.pinned (OpenSpec.upto partsGoneSpec)

/-- 'cellarerlaw08.PartsCounts', WHERE WHAT IT READS IS OF BULK AT MOST 1048576: true; the input reads as it did. -/
def partsCountsUptoRow : OpenClaim := { program := "ytlahccmlnbdekaa", sum := "93ca57ad126ffcd728a60a97bf73284d4fd705c73cf20e8cbbe8b3df97d21816", func := "cellarer/cellarerlaw08.PartsCounts", spec := "partsCounts", inPlace := ["internal/abi.NoEscape"], unfollowed := true, recurses := true, apart := false, narrowed := true }
def PartsCountsUptoSaid : Prop := partsCountsUptoRow.holds Try.pinned (OpenSpec.upto partsCountsSpec)

/-- 'cellarerlaw08.PartsPieces', WHERE WHAT IT READS IS OF BULK AT MOST 1048576: true; the input reads as it did. -/
def partsPiecesUptoRow : OpenClaim := { program := "ytlahccmlnbdekaa", sum := "93ca57ad126ffcd728a60a97bf73284d4fd705c73cf20e8cbbe8b3df97d21816", func := "cellarer/cellarerlaw08.PartsPieces", spec := "partsPieces", inPlace := ["internal/abi.NoEscape"], unfollowed := true, recurses := true, apart := false, narrowed := true }
def PartsPiecesUptoSaid : Prop := partsPiecesUptoRow.holds Try.pinned (OpenSpec.upto partsPiecesSpec)

end Rows
end Go.Proofs.Ytlahccmlnbdekaa

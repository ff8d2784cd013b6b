/-
  No cell of these rows narrows 'for every input' (looked for: loops, veiled, ifaces, maps, wideKeys, modest, calm, conditions, laid).
  DERIVED. THE GIVEN ROWS OF THIS SEAT. 7 by the template 'for every input the law returns true; each argument reads behind the call as it read before'; 0 by the template 'total and deterministic' (their statements: YtmekgpnppcponaaTotals.lean).
  GIVEN WITH THE SEED: the statements are not yours to turn. If you find one false, say at which input.
  Laid BY PROGRAM, IN A SANDBOX (cutbox-rows.mjs): the forced cells as the released guide's own fill.sh prints them over the translation b581bba6be226de6… (all of the seat's roots in one cut). By AI agents, Wed Nov 11 2026. No macro, syntax, notation, axiom, sorry.
-/
import Derived.Test.YtmekgpnppcponaaChecked
import GoSem.Claim
import GoSem.ClaimJoined
import GoSem.ClaimMapViews
import Derived.JoinedTies
import Derived.KernelRfl
namespace Go.Proofs.Ytmekgpnppcponaa
/- THE CELL 'sum', in the pinned program and in every row, IS THE sha256 OF THE DUMP (.gsa) THAT YtmekgpnppcponaaProg.lean LOADS. Nothing in Lean hashes anything: it is a label: what it is worth is what the hold of that sum in a sandbox is worth. -/
noncomputable def Try.pinned : Pinned := { name := "ytmekgpnppcponaa", sum := "b581bba6be226de6b6cbe0dcd08ada81b0b2b57aaedc504cd2c518916f96ba5c", checked := Try.checked }
namespace Rows
def none {H : Type} : Left H := { results := [], args := [] }

/-- 'cellarerlaw03.SpanTexts': WHATEVER THE INPUT: true; the input reads as it did. -/
def spanTextsSpec : ChangeSpec := { name := "spanTexts", fn := fun _ => fun
  | [d1, d2] => { results := [.lit (.bool true)], args := [d1, d2] }
  | _ => none }
def spanTextsRow : OpenClaim := { program := "ytmekgpnppcponaa", sum := "b581bba6be226de6b6cbe0dcd08ada81b0b2b57aaedc504cd2c518916f96ba5c", func := "cellarer/cellarerlaw03.SpanTexts", spec := "spanTexts", apart := false }
def SpanTextsSaid : Prop := spanTextsRow.holds Try.pinned (OpenSpec.ofChange spanTextsSpec)

/-- ITS FALSE NEIGHBOUR: 'it returns false'. Refute it at one input. -/
def spanTextsWrong : ChangeSpec := { name := "spanTexts", fn := fun _ => fun
  | [d1, d2] => { results := [.lit (.bool false)], args := [d1, d2] }
  | _ => none }
def SpanTextsWrongFalsely : Prop := spanTextsRow.holds Try.pinned (OpenSpec.ofChange spanTextsWrong)

/-- 'cellarerlaw03.SpanOfs': WHATEVER THE INPUT: true; the input reads as it did. -/
def spanOfsSpec : ChangeSpec := { name := "spanOfs", fn := fun _ => fun
  | [d1, d2, d3] => { results := [.lit (.bool true)], args := [d1, d2, d3] }
  | _ => none }
def spanOfsRow : OpenClaim := { program := "ytmekgpnppcponaa", sum := "b581bba6be226de6b6cbe0dcd08ada81b0b2b57aaedc504cd2c518916f96ba5c", func := "cellarer/cellarerlaw03.SpanOfs", spec := "spanOfs", apart := false }
def SpanOfsSaid : Prop := spanOfsRow.holds Try.pinned (OpenSpec.ofChange spanOfsSpec)

/-- ITS FALSE NEIGHBOUR: 'it returns false'. Refute it at one input. -/
def spanOfsWrong : ChangeSpec := { name := "spanOfs", fn := fun _ => fun
  | [d1, d2, d3] => { results := [.lit (.bool false)], args := [d1, d2, d3] }
  | _ => none }
def SpanOfsWrongFalsely : Prop := spanOfsRow.holds Try.pinned (OpenSpec.ofChange spanOfsWrong)

/-- 'cellarerlaw03.SpanParts': WHATEVER THE INPUT: true; the input reads as it did. -/
def spanPartsSpec : ChangeSpec := { name := "spanParts", fn := fun _ => fun
  | [d1, d2] => { results := [.lit (.bool true)], args := [d1, d2] }
  | _ => none }
def spanPartsRow : OpenClaim := { program := "ytmekgpnppcponaa", sum := "b581bba6be226de6b6cbe0dcd08ada81b0b2b57aaedc504cd2c518916f96ba5c", func := "cellarer/cellarerlaw03.SpanParts", spec := "spanParts", apart := false }
def SpanPartsSaid : Prop := spanPartsRow.holds Try.pinned (OpenSpec.ofChange spanPartsSpec)

/-- ITS FALSE NEIGHBOUR: 'it returns false'. Refute it at one input. -/
def spanPartsWrong : ChangeSpec := { name := "spanParts", fn := fun _ => fun
  | [d1, d2] => { results := [.lit (.bool false)], args := [d1, d2] }
  | _ => none }
def SpanPartsWrongFalsely : Prop := spanPartsRow.holds Try.pinned (OpenSpec.ofChange spanPartsWrong)

/-- 'cellarerlaw03.SpanWithin': WHATEVER THE INPUT: true; the input reads as it did. -/
def spanWithinSpec : ChangeSpec := { name := "spanWithin", fn := fun _ => fun
  | [d1, d2, d3] => { results := [.lit (.bool true)], args := [d1, d2, d3] }
  | _ => none }
def spanWithinRow : OpenClaim := { program := "ytmekgpnppcponaa", sum := "b581bba6be226de6b6cbe0dcd08ada81b0b2b57aaedc504cd2c518916f96ba5c", func := "cellarer/cellarerlaw03.SpanWithin", spec := "spanWithin", apart := false }
def SpanWithinSaid : Prop := spanWithinRow.holds Try.pinned (OpenSpec.ofChange spanWithinSpec)

/-- ITS FALSE NEIGHBOUR: 'it returns false'. Refute it at one input. -/
def spanWithinWrong : ChangeSpec := { name := "spanWithin", fn := fun _ => fun
  | [d1, d2, d3] => { results := [.lit (.bool false)], args := [d1, d2, d3] }
  | _ => none }
def SpanWithinWrongFalsely : Prop := spanWithinRow.holds Try.pinned (OpenSpec.ofChange spanWithinWrong)

/-- 'cellarerlaw03.SpanWhole': WHATEVER THE INPUT: true; the input reads as it did. -/
def spanWholeSpec : ChangeSpec := { name := "spanWhole", fn := fun _ => fun
  | [d] => { results := [.lit (.bool true)], args := [d] }
  | _ => none }
def spanWholeRow : OpenClaim := { program := "ytmekgpnppcponaa", sum := "b581bba6be226de6b6cbe0dcd08ada81b0b2b57aaedc504cd2c518916f96ba5c", func := "cellarer/cellarerlaw03.SpanWhole", spec := "spanWhole", apart := false }
def SpanWholeSaid : Prop := spanWholeRow.holds Try.pinned (OpenSpec.ofChange spanWholeSpec)

/-- ITS FALSE NEIGHBOUR: 'it returns false'. Refute it at one input. -/
def spanWholeWrong : ChangeSpec := { name := "spanWhole", fn := fun _ => fun
  | [d] => { results := [.lit (.bool false)], args := [d] }
  | _ => none }
def SpanWholeWrongFalsely : Prop := spanWholeRow.holds Try.pinned (OpenSpec.ofChange spanWholeWrong)

/-- 'cellarerlaw03.SpanTwice': WHATEVER THE INPUT: true; the input reads as it did. -/
def spanTwiceSpec : ChangeSpec := { name := "spanTwice", fn := fun _ => fun
  | [d1, d2, d3] => { results := [.lit (.bool true)], args := [d1, d2, d3] }
  | _ => none }
def spanTwiceRow : OpenClaim := { program := "ytmekgpnppcponaa", sum := "b581bba6be226de6b6cbe0dcd08ada81b0b2b57aaedc504cd2c518916f96ba5c", func := "cellarer/cellarerlaw03.SpanTwice", spec := "spanTwice", apart := false }
def SpanTwiceSaid : Prop := spanTwiceRow.holds Try.pinned (OpenSpec.ofChange spanTwiceSpec)

/-- ITS FALSE NEIGHBOUR: 'it returns false'. Refute it at one input. -/
def spanTwiceWrong : ChangeSpec := { name := "spanTwice", fn := fun _ => fun
  | [d1, d2, d3] => { results := [.lit (.bool false)], args := [d1, d2, d3] }
  | _ => none }
def SpanTwiceWrongFalsely : Prop := spanTwiceRow.holds Try.pinned (OpenSpec.ofChange spanTwiceWrong)

/-- 'cellarerlaw03.SpanOctets': WHATEVER THE INPUT: true; the input reads as it did. -/
def spanOctetsSpec : ChangeSpec := { name := "spanOctets", fn := fun _ => fun
  | [d1, d2, d3] => { results := [.lit (.bool true)], args := [d1, d2, d3] }
  | _ => none }
def spanOctetsRow : OpenClaim := { program := "ytmekgpnppcponaa", sum := "b581bba6be226de6b6cbe0dcd08ada81b0b2b57aaedc504cd2c518916f96ba5c", func := "cellarer/cellarerlaw03.SpanOctets", spec := "spanOctets", apart := false }
def SpanOctetsSaid : Prop := spanOctetsRow.holds Try.pinned (OpenSpec.ofChange spanOctetsSpec)

/-- ITS FALSE NEIGHBOUR: 'it returns false'. Refute it at one input. -/
def spanOctetsWrong : ChangeSpec := { name := "spanOctets", fn := fun _ => fun
  | [d1, d2, d3] => { results := [.lit (.bool false)], args := [d1, d2, d3] }
  | _ => none }
def SpanOctetsWrongFalsely : Prop := spanOctetsRow.holds Try.pinned (OpenSpec.ofChange spanOctetsWrong)

/- THE SECOND FORM. 'bulk': how many values and letters a reading holds, each counted each time it is reached (what is shared counts as often as it is met; a slice's spare places count too). A statement '..UptoSaid' is the law's where the arguments, and the package variables that the reading takes, are together of bulk at most 1048576: NARROWER than '..Said'. Prove '..Said' where nothing that the law and all that it calls make is longer than what came in: it says more and counts as full. Else prove '..UptoSaid'. A law counts once. -/
mutual
def uptoBulk {H : Type} : DataW H → Nat
  | .lit (.string bytes) => bytes.length + 1
  | .lit _ => 1
  | .nil => 1
  | .ptr d => uptoBulk d + 1
  | .slice elems spare => uptoBulkAll elems + uptoBulkAll spare + 1
  | .agg parts => uptoBulkAll parts + 1
  | .iface _ d => uptoBulk d + 1
  | .map entries => uptoBulkEntries entries + 1
  | .held _ => 1
def uptoBulkAll {H : Type} : List (DataW H) → Nat
  | [] => 0
  | d :: r => uptoBulk d + uptoBulkAll r
def uptoBulkEntries {H : Type} : List (Lit × DataW H) → Nat
  | [] => 0
  | x :: r => uptoBulkEntry x + uptoBulkEntries r
def uptoBulkEntry {H : Type} : Lit × DataW H → Nat
  | (.string bytes, d) => bytes.length + uptoBulk d + 1
  | (_, d) => uptoBulk d + 1
 end
def uptoSmall : (H : Type) → List (DataW H) → Bool := fun _ ds => decide (uptoBulkAll ds ≤ 1048576)
def OpenSpec.upto (s : _root_.Go.ChangeSpec) : _root_.Go.OpenSpec := { _root_.Go.OpenSpec.ofChange s with cond := some uptoSmall }

/-- 'cellarerlaw03.SpanTexts', WHERE WHAT IT READS IS OF BULK AT MOST 1048576: true; the input reads as it did. -/
def spanTextsUptoRow : OpenClaim := { program := "ytmekgpnppcponaa", sum := "b581bba6be226de6b6cbe0dcd08ada81b0b2b57aaedc504cd2c518916f96ba5c", func := "cellarer/cellarerlaw03.SpanTexts", spec := "spanTexts", apart := false, narrowed := true }
def SpanTextsUptoSaid : Prop := spanTextsUptoRow.holds Try.pinned (OpenSpec.upto spanTextsSpec)

/-- 'cellarerlaw03.SpanOfs', WHERE WHAT IT READS IS OF BULK AT MOST 1048576: true; the input reads as it did. -/
def spanOfsUptoRow : OpenClaim := { program := "ytmekgpnppcponaa", sum := "b581bba6be226de6b6cbe0dcd08ada81b0b2b57aaedc504cd2c518916f96ba5c", func := "cellarer/cellarerlaw03.SpanOfs", spec := "spanOfs", apart := false, narrowed := true }
def SpanOfsUptoSaid : Prop := spanOfsUptoRow.holds Try.pinned (OpenSpec.upto spanOfsSpec)

/-- 'cellarerlaw03.SpanParts', WHERE WHAT IT READS IS OF BULK AT MOST 1048576: true; the input reads as it did. -/
def spanPartsUptoRow : OpenClaim := { program := "ytmekgpnppcponaa", sum := "b581bba6be226de6b6cbe0dcd08ada81b0b2b57aaedc504cd2c518916f96ba5c", func := "cellarer/cellarerlaw03.SpanParts", spec := "spanParts", apart := false, narrowed := true }
def SpanPartsUptoSaid : Prop := spanPartsUptoRow.holds Try.pinned (OpenSpec.upto spanPartsSpec)

/-- 'cellarerlaw03.SpanWithin', WHERE WHAT IT READS IS OF BULK AT MOST 1048576: true; the input reads as it did. -/
def spanWithinUptoRow : OpenClaim := { program := "ytmekgpnppcponaa", sum := "b581bba6be226de6b6cbe0dcd08ada81b0b2b57aaedc504cd2c518916f96ba5c", func := "cellarer/cellarerlaw03.SpanWithin", spec := "spanWithin", apart := false, narrowed := true }
def SpanWithinUptoSaid : Prop := spanWithinUptoRow.holds Try.pinned (OpenSpec.upto spanWithinSpec)

/-- 'cellarerlaw03.SpanWhole', WHERE WHAT IT READS IS OF BULK AT MOST 1048576: true; the input reads as it did. -/
def spanWholeUptoRow : OpenClaim := { program := "ytmekgpnppcponaa", sum := "b581bba6be226de6b6cbe0dcd08ada81b0b2b57aaedc504cd2c518916f96ba5c", func := "cellarer/cellarerlaw03.SpanWhole", spec := "spanWhole", apart := false, narrowed := true }
def SpanWholeUptoSaid : Prop := spanWholeUptoRow.holds Try.pinned (OpenSpec.upto spanWholeSpec)

/-- 'cellarerlaw03.SpanTwice', WHERE WHAT IT READS IS OF BULK AT MOST 1048576: true; the input reads as it did. -/
def spanTwiceUptoRow : OpenClaim := { program := "ytmekgpnppcponaa", sum := "b581bba6be226de6b6cbe0dcd08ada81b0b2b57aaedc504cd2c518916f96ba5c", func := "cellarer/cellarerlaw03.SpanTwice", spec := "spanTwice", apart := false, narrowed := true }
def SpanTwiceUptoSaid : Prop := spanTwiceUptoRow.holds Try.pinned (OpenSpec.upto spanTwiceSpec)

/-- 'cellarerlaw03.SpanOctets', WHERE WHAT IT READS IS OF BULK AT MOST 1048576: true; the input reads as it did. -/
def spanOctetsUptoRow : OpenClaim := { program := "ytmekgpnppcponaa", sum := "b581bba6be226de6b6cbe0dcd08ada81b0b2b57aaedc504cd2c518916f96ba5c", func := "cellarer/cellarerlaw03.SpanOctets", spec := "spanOctets", apart := false, narrowed := true }
def SpanOctetsUptoSaid : Prop := spanOctetsUptoRow.holds Try.pinned (OpenSpec.upto spanOctetsSpec)

end Rows
end Go.Proofs.Ytmekgpnppcponaa

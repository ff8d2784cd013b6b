/-
  No cell of these rows narrows 'for every input' (looked for: loops, veiled, ifaces, maps, wideKeys, modest, calm, conditions, laid).
  DERIVED. THE GIVEN ROWS OF THIS SEAT. 8 by the template 'for every input the law returns true; each argument reads behind the call as it read before'; 0 by the template 'total and deterministic' (their statements: YthlbpjopkaninaaTotals.lean).
  GIVEN WITH THE SEED: the statements are not yours to turn. If you find one false, say at which input.
  Laid BY PROGRAM, IN A SANDBOX (cutbox-rows.mjs): the forced cells as the released guide's own fill.sh prints them over the translation 0851b7c098298b60… (all of the seat's roots in one cut). By AI agents, Wed Nov 11 2026. No macro, syntax, notation, axiom, sorry.
-/
import Derived.Test.YthlbpjopkaninaaChecked
import GoSem.Claim
import GoSem.ClaimJoined
import GoSem.ClaimMapViews
import Derived.JoinedTies
import Derived.KernelRfl
namespace Go.Proofs.Ythlbpjopkaninaa
/- THE CELL 'sum', in the pinned program and in every row, IS THE sha256 OF THE DUMP (.gsa) THAT YthlbpjopkaninaaProg.lean LOADS. Nothing in Lean hashes anything: it is a label: what it is worth is what the hold of that sum in a sandbox is worth. -/
noncomputable def Try.pinned : Pinned := { name := "ythlbpjopkaninaa", sum := "0851b7c098298b60d01965ee8f6b9f8119b6b0f145838f558cbfe7b30eab43a7", checked := Try.checked }
namespace Rows
def none {H : Type} : Left H := { results := [], args := [] }

/-- 'cellarerlaw12.ChangeLays': WHATEVER THE INPUT: true; the input reads as it did. -/
def changeLaysSpec : ChangeSpec := { name := "changeLays", fn := fun _ => fun
  | [d1, d2] => { results := [.lit (.bool true)], args := [d1, d2] }
  | _ => none }
def changeLaysRow : OpenClaim := { program := "ythlbpjopkaninaa", sum := "0851b7c098298b60d01965ee8f6b9f8119b6b0f145838f558cbfe7b30eab43a7", func := "cellarer/cellarerlaw12.ChangeLays", spec := "changeLays", unfollowed := true, recurses := true, plainKeys := false, apart := false }
def ChangeLaysSaid : Prop := changeLaysRow.holds Try.pinned (OpenSpec.ofChange changeLaysSpec)

/-- ITS FALSE NEIGHBOUR: 'it returns false'. Refute it at one input. -/
def changeLaysWrong : ChangeSpec := { name := "changeLays", fn := fun _ => fun
  | [d1, d2] => { results := [.lit (.bool false)], args := [d1, d2] }
  | _ => none }
def ChangeLaysWrongFalsely : Prop := changeLaysRow.holds Try.pinned (OpenSpec.ofChange changeLaysWrong)

/-- 'cellarerlaw12.ChangeCounts': WHATEVER THE INPUT: true; the input reads as it did. -/
def changeCountsSpec : ChangeSpec := { name := "changeCounts", fn := fun _ => fun
  | [d1, d2, d3] => { results := [.lit (.bool true)], args := [d1, d2, d3] }
  | _ => none }
def changeCountsRow : OpenClaim := { program := "ythlbpjopkaninaa", sum := "0851b7c098298b60d01965ee8f6b9f8119b6b0f145838f558cbfe7b30eab43a7", func := "cellarer/cellarerlaw12.ChangeCounts", spec := "changeCounts", unfollowed := true, recurses := true, plainKeys := false, apart := false }
def ChangeCountsSaid : Prop := changeCountsRow.holds Try.pinned (OpenSpec.ofChange changeCountsSpec)

/-- ITS FALSE NEIGHBOUR: 'it returns false'. Refute it at one input. -/
def changeCountsWrong : ChangeSpec := { name := "changeCounts", fn := fun _ => fun
  | [d1, d2, d3] => { results := [.lit (.bool false)], args := [d1, d2, d3] }
  | _ => none }
def ChangeCountsWrongFalsely : Prop := changeCountsRow.holds Try.pinned (OpenSpec.ofChange changeCountsWrong)

/-- 'cellarerlaw12.ChangeTurns': WHATEVER THE INPUT: true; the input reads as it did. -/
def changeTurnsSpec : ChangeSpec := { name := "changeTurns", fn := fun _ => fun
  | [d1, d2] => { results := [.lit (.bool true)], args := [d1, d2] }
  | _ => none }
def changeTurnsRow : OpenClaim := { program := "ythlbpjopkaninaa", sum := "0851b7c098298b60d01965ee8f6b9f8119b6b0f145838f558cbfe7b30eab43a7", func := "cellarer/cellarerlaw12.ChangeTurns", spec := "changeTurns", unfollowed := true, recurses := true, plainKeys := false, apart := false }
def ChangeTurnsSaid : Prop := changeTurnsRow.holds Try.pinned (OpenSpec.ofChange changeTurnsSpec)

/-- ITS FALSE NEIGHBOUR: 'it returns false'. Refute it at one input. -/
def changeTurnsWrong : ChangeSpec := { name := "changeTurns", fn := fun _ => fun
  | [d1, d2] => { results := [.lit (.bool false)], args := [d1, d2] }
  | _ => none }
def ChangeTurnsWrongFalsely : Prop := changeTurnsRow.holds Try.pinned (OpenSpec.ofChange changeTurnsWrong)

/-- 'cellarerlaw12.ChangeDead': WHATEVER THE INPUT: true; the input reads as it did. -/
def changeDeadSpec : ChangeSpec := { name := "changeDead", fn := fun _ => fun
  | [d] => { results := [.lit (.bool true)], args := [d] }
  | _ => none }
def changeDeadRow : OpenClaim := { program := "ythlbpjopkaninaa", sum := "0851b7c098298b60d01965ee8f6b9f8119b6b0f145838f558cbfe7b30eab43a7", func := "cellarer/cellarerlaw12.ChangeDead", spec := "changeDead", unfollowed := true, recurses := true, plainKeys := false, apart := false }
def ChangeDeadSaid : Prop := changeDeadRow.holds Try.pinned (OpenSpec.ofChange changeDeadSpec)

/-- ITS FALSE NEIGHBOUR: 'it returns false'. Refute it at one input. -/
def changeDeadWrong : ChangeSpec := { name := "changeDead", fn := fun _ => fun
  | [d] => { results := [.lit (.bool false)], args := [d] }
  | _ => none }
def ChangeDeadWrongFalsely : Prop := changeDeadRow.holds Try.pinned (OpenSpec.ofChange changeDeadWrong)

/-- 'cellarerlaw12.ChangeGoes': WHATEVER THE INPUT: true; the input reads as it did. -/
def changeGoesSpec : ChangeSpec := { name := "changeGoes", fn := fun _ => fun
  | [d1, d2] => { results := [.lit (.bool true)], args := [d1, d2] }
  | _ => none }
def changeGoesRow : OpenClaim := { program := "ythlbpjopkaninaa", sum := "0851b7c098298b60d01965ee8f6b9f8119b6b0f145838f558cbfe7b30eab43a7", func := "cellarer/cellarerlaw12.ChangeGoes", spec := "changeGoes", unfollowed := true, recurses := true, plainKeys := false, apart := false }
def ChangeGoesSaid : Prop := changeGoesRow.holds Try.pinned (OpenSpec.ofChange changeGoesSpec)

/-- ITS FALSE NEIGHBOUR: 'it returns false'. Refute it at one input. -/
def changeGoesWrong : ChangeSpec := { name := "changeGoes", fn := fun _ => fun
  | [d1, d2] => { results := [.lit (.bool false)], args := [d1, d2] }
  | _ => none }
def ChangeGoesWrongFalsely : Prop := changeGoesRow.holds Try.pinned (OpenSpec.ofChange changeGoesWrong)

/-- 'cellarerlaw12.ChangeSplits': WHATEVER THE INPUT: true; the input reads as it did. -/
def changeSplitsSpec : ChangeSpec := { name := "changeSplits", fn := fun _ => fun
  | [d1, d2] => { results := [.lit (.bool true)], args := [d1, d2] }
  | _ => none }
def changeSplitsRow : OpenClaim := { program := "ythlbpjopkaninaa", sum := "0851b7c098298b60d01965ee8f6b9f8119b6b0f145838f558cbfe7b30eab43a7", func := "cellarer/cellarerlaw12.ChangeSplits", spec := "changeSplits", unfollowed := true, recurses := true, plainKeys := false, apart := false }
def ChangeSplitsSaid : Prop := changeSplitsRow.holds Try.pinned (OpenSpec.ofChange changeSplitsSpec)

/-- ITS FALSE NEIGHBOUR: 'it returns false'. Refute it at one input. -/
def changeSplitsWrong : ChangeSpec := { name := "changeSplits", fn := fun _ => fun
  | [d1, d2] => { results := [.lit (.bool false)], args := [d1, d2] }
  | _ => none }
def ChangeSplitsWrongFalsely : Prop := changeSplitsRow.holds Try.pinned (OpenSpec.ofChange changeSplitsWrong)

/-- 'cellarerlaw12.ChangeLast': WHATEVER THE INPUT: true; the input reads as it did. -/
def changeLastSpec : ChangeSpec := { name := "changeLast", fn := fun _ => fun
  | [d1, d2] => { results := [.lit (.bool true)], args := [d1, d2] }
  | _ => none }
def changeLastRow : OpenClaim := { program := "ythlbpjopkaninaa", sum := "0851b7c098298b60d01965ee8f6b9f8119b6b0f145838f558cbfe7b30eab43a7", func := "cellarer/cellarerlaw12.ChangeLast", spec := "changeLast", unfollowed := true, recurses := true, plainKeys := false, apart := false }
def ChangeLastSaid : Prop := changeLastRow.holds Try.pinned (OpenSpec.ofChange changeLastSpec)

/-- ITS FALSE NEIGHBOUR: 'it returns false'. Refute it at one input. -/
def changeLastWrong : ChangeSpec := { name := "changeLast", fn := fun _ => fun
  | [d1, d2] => { results := [.lit (.bool false)], args := [d1, d2] }
  | _ => none }
def ChangeLastWrongFalsely : Prop := changeLastRow.holds Try.pinned (OpenSpec.ofChange changeLastWrong)

/-- 'cellarerlaw12.ChangeGone': WHATEVER THE INPUT: true; the input reads as it did. -/
def changeGoneSpec : ChangeSpec := { name := "changeGone", fn := fun _ => fun
  | [d1, d2] => { results := [.lit (.bool true)], args := [d1, d2] }
  | _ => none }
def changeGoneRow : OpenClaim := { program := "ythlbpjopkaninaa", sum := "0851b7c098298b60d01965ee8f6b9f8119b6b0f145838f558cbfe7b30eab43a7", func := "cellarer/cellarerlaw12.ChangeGone", spec := "changeGone", unfollowed := true, recurses := true, plainKeys := false, apart := false }
def ChangeGoneSaid : Prop := changeGoneRow.holds Try.pinned (OpenSpec.ofChange changeGoneSpec)

/-- ITS FALSE NEIGHBOUR: 'it returns false'. Refute it at one input. -/
def changeGoneWrong : ChangeSpec := { name := "changeGone", fn := fun _ => fun
  | [d1, d2] => { results := [.lit (.bool false)], args := [d1, d2] }
  | _ => none }
def ChangeGoneWrongFalsely : Prop := changeGoneRow.holds Try.pinned (OpenSpec.ofChange changeGoneWrong)

/- THE SECOND FORM. 'bulk': how many values and letters a reading holds, each counted each time it is reached (what is shared counts as often as it is met; a slice's spare places count too). A statement '..UptoSaid' is the law's where the arguments, and the package variables that the reading takes, are together of bulk at most 1048576: NARROWER than '..Said'. Prove '..Said' where nothing that the law and all that it calls make is longer than what came in: it says more and counts as full. Else prove '..UptoSaid'. A law counts once. -/
mutual
def uptoBulk {H : Type} : DataW H → Nat
  | .lit (.string bytes) => bytes.length + 1
  | .lit _ => 1
  | .nil => 1
  | .ptr d => uptoBulk d + 1
  | .slice elems spare => uptoBulkAll elems + uptoBulkAll spare + 1
  | .agg parts => uptoBulkAll parts + 1
  | .iface _ d => uptoBulk d + 1
  | .map entries => uptoBulkEntries entries + 1
  | .held _ => 1
def uptoBulkAll {H : Type} : List (DataW H) → Nat
  | [] => 0
  | d :: r => uptoBulk d + uptoBulkAll r
def uptoBulkEntries {H : Type} : List (Lit × DataW H) → Nat
  | [] => 0
  | x :: r => uptoBulkEntry x + uptoBulkEntries r
def uptoBulkEntry {H : Type} : Lit × DataW H → Nat
  | (.string bytes, d) => bytes.length + uptoBulk d + 1
  | (_, d) => uptoBulk d + 1
 end
def uptoSmall : (H : Type) → List (DataW H) → Bool := fun _ ds => decide (uptoBulkAll ds ≤ 1048576)
def OpenSpec.upto (s : _root_.Go.ChangeSpec) : _root_.Go.OpenSpec := { _root_.Go.OpenSpec.ofChange s with cond := some uptoSmall }

/-- 'cellarerlaw12.ChangeLays', WHERE WHAT IT READS IS OF BULK AT MOST 1048576: true; the input reads as it did. -/
def changeLaysUptoRow : OpenClaim := { program := "ythlbpjopkaninaa", sum := "0851b7c098298b60d01965ee8f6b9f8119b6b0f145838f558cbfe7b30eab43a7", func := "cellarer/cellarerlaw12.ChangeLays", spec := "changeLays", unfollowed := true, recurses := true, plainKeys := false, apart := false, narrowed := true }
def ChangeLaysUptoSaid : Prop := changeLaysUptoRow.holds Try.pinned (OpenSpec.upto changeLaysSpec)

/-- 'cellarerlaw12.ChangeCounts', WHERE WHAT IT READS IS OF BULK AT MOST 1048576: true; the input reads as it did. -/
def changeCountsUptoRow : OpenClaim := { program := "ythlbpjopkaninaa", sum := "0851b7c098298b60d01965ee8f6b9f8119b6b0f145838f558cbfe7b30eab43a7", func := "cellarer/cellarerlaw12.ChangeCounts", spec := "changeCounts", unfollowed := true, recurses := true, plainKeys := false, apart := false, narrowed := true }
def ChangeCountsUptoSaid : Prop := changeCountsUptoRow.holds Try.pinned (OpenSpec.upto changeCountsSpec)

/-- 'cellarerlaw12.ChangeTurns', WHERE WHAT IT READS IS OF BULK AT MOST 1048576: true; the input reads as it did. -/
def changeTurnsUptoRow : OpenClaim := { program := "ythlbpjopkaninaa", sum := "0851b7c098298b60d01965ee8f6b9f8119b6b0f145838f558cbfe7b30eab43a7", func := "cellarer/cellarerlaw12.ChangeTurns", spec := "changeTurns", unfollowed := true, recurses := true, plainKeys := false, apart := false, narrowed := true }
def ChangeTurnsUptoSaid : Prop := changeTurnsUptoRow.holds Try.pinned (OpenSpec.upto changeTurnsSpec)

/-- 'cellarerlaw12.ChangeDead', WHERE WHAT IT READS IS OF BULK AT MOST 1048576: true; the input reads as it did. -/
def changeDeadUptoRow : OpenClaim := { program := "ythlbpjopkaninaa", sum := "0851b7c098298b60d01965ee8f6b9f8119b6b0f145838f558cbfe7b30eab43a7", func := "cellarer/cellarerlaw12.ChangeDead", spec := "changeDead", unfollowed := true, recurses := true, plainKeys := false, apart := false, narrowed := true }
def ChangeDeadUptoSaid : Prop := changeDeadUptoRow.holds Try.pinned (OpenSpec.upto changeDeadSpec)

/-- 'cellarerlaw12.ChangeGoes', WHERE WHAT IT READS IS OF BULK AT MOST 1048576: true; the input reads as it did. -/
def changeGoesUptoRow : OpenClaim := { program := "ythlbpjopkaninaa", sum := "0851b7c098298b60d01965ee8f6b9f8119b6b0f145838f558cbfe7b30eab43a7", func := "cellarer/cellarerlaw12.ChangeGoes", spec := "changeGoes", unfollowed := true, recurses := true, plainKeys := false, apart := false, narrowed := true }
def ChangeGoesUptoSaid : Prop := changeGoesUptoRow.holds Try.pinned (OpenSpec.upto changeGoesSpec)

/-- 'cellarerlaw12.ChangeSplits', WHERE WHAT IT READS IS OF BULK AT MOST 1048576: true; the input reads as it did. -/
def changeSplitsUptoRow : OpenClaim := { program := "ythlbpjopkaninaa", sum := "0851b7c098298b60d01965ee8f6b9f8119b6b0f145838f558cbfe7b30eab43a7", func := "cellarer/cellarerlaw12.ChangeSplits", spec := "changeSplits", unfollowed := true, recurses := true, plainKeys := false, apart := false, narrowed := true }
def ChangeSplitsUptoSaid : Prop := changeSplitsUptoRow.holds Try.pinned (OpenSpec.upto changeSplitsSpec)

/-- 'cellarerlaw12.ChangeLast', WHERE WHAT IT READS IS OF BULK AT MOST 1048576: true; the input reads as it did. -/
def changeLastUptoRow : OpenClaim := { program := "ythlbpjopkaninaa", sum := "0851b7c098298b60d01965ee8f6b9f8119b6b0f145838f558cbfe7b30eab43a7", func := "cellarer/cellarerlaw12.ChangeLast", spec := "changeLast", unfollowed := true, recurses := true, plainKeys := false, apart := false, narrowed := true }
def ChangeLastUptoSaid : Prop := changeLastUptoRow.holds Try.pinned (OpenSpec.upto changeLastSpec)

/-- 'cellarerlaw12.ChangeGone', WHERE WHAT IT READS IS OF BULK AT MOST 1048576: true; the input reads as it did. -/
def changeGoneUptoRow : OpenClaim := { program := "ythlbpjopkaninaa", sum := "0851b7c098298b60d01965ee8f6b9f8119b6b0f145838f558cbfe7b30eab43a7", func := "cellarer/cellarerlaw12.ChangeGone", spec := "changeGone", unfollowed := true, recurses := true, plainKeys := false, apart := false, narrowed := true }
def ChangeGoneUptoSaid : Prop := changeGoneUptoRow.holds Try.pinned (OpenSpec.upto changeGoneSpec)

end Rows
end Go.Proofs.Ythlbpjopkaninaa

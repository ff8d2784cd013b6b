/-
  No cell of these rows narrows 'for every input' (looked for: loops, veiled, ifaces, maps, wideKeys, modest, calm, conditions, laid).
  DERIVED. THE GIVEN ROWS OF THIS SEAT. 7 by the template 'for every input the law returns true; each argument reads behind the call as it read before'; 0 by the template 'total and deterministic' (their statements: YtjjlbbfhmpbneaaGreatTotals.lean).
  GIVEN WITH THE SEED: the statements are not yours to turn. If you find one false, say at which input.
  Laid BY PROGRAM, IN A SANDBOX (cutbox-rows.mjs): the forced cells as the released guide's own fill.sh prints them over the translation 6e6d7bd20004ff76… (all of the seat's roots in one cut). By AI agents, Wed Nov 11 2026. No macro, syntax, notation, axiom, sorry.
-/
import Derived.Test.YtjjlbbfhmpbneaaGreatChecked
import GoSem.Claim
import GoSem.ClaimJoined
import GoSem.ClaimMapViews
import Derived.JoinedTies
import Derived.KernelRfl
namespace Go.Proofs.YtjjlbbfhmpbneaaGreat
/- THE CELL 'sum', in the pinned program and in every row, IS THE sha256 OF THE DUMP (.gsa) THAT YtjjlbbfhmpbneaaGreatProg.lean LOADS. Nothing in Lean hashes anything: it is a label: what it is worth is what the hold of that sum in a sandbox is worth. -/
noncomputable def Tryz.pinned : Pinned := { name := "ytjjlbbfhmpbneaagreat", sum := "6e6d7bd20004ff7623ee58ce1c86e82277db0de51b4eeae4793f222d28f75adb", checked := Tryz.checked }
namespace Rows
def none {H : Type} : Left H := { results := [], args := [] }

/-- 'cellarerlaw09.BucketDoes': WHATEVER THE INPUT: true; the input reads as it did. -/
def bucketDoesSpec : ChangeSpec := { name := "bucketDoes", fn := fun _ => fun
  | [d1, d2] => { results := [.lit (.bool true)], args := [d1, d2] }
  | _ => none }
def bucketDoesRow : OpenClaim := { program := "ytjjlbbfhmpbneaagreat", sum := "6e6d7bd20004ff7623ee58ce1c86e82277db0de51b4eeae4793f222d28f75adb", func := "cellarer/cellarerlaw09.BucketDoes", spec := "bucketDoes", inPlace := ["internal/abi.NoEscape"], unfollowed := true, recurses := true, plainKeys := false, apart := false }
def BucketDoesSaid : Prop := bucketDoesRow.holds Tryz.pinned (OpenSpec.ofChange bucketDoesSpec)

/-- ITS FALSE NEIGHBOUR: 'it returns false'. Refute it at one input. -/
def bucketDoesWrong : ChangeSpec := { name := "bucketDoes", fn := fun _ => fun
  | [d1, d2] => { results := [.lit (.bool false)], args := [d1, d2] }
  | _ => none }
def BucketDoesWrongFalsely : Prop := bucketDoesRow.holds Tryz.pinned (OpenSpec.ofChange bucketDoesWrong)

/-- 'cellarerlaw09.BucketStays': WHATEVER THE INPUT: true; the input reads as it did. -/
def bucketStaysSpec : ChangeSpec := { name := "bucketStays", fn := fun _ => fun
  | [d] => { results := [.lit (.bool true)], args := [d] }
  | _ => none }
def bucketStaysRow : OpenClaim := { program := "ytjjlbbfhmpbneaagreat", sum := "6e6d7bd20004ff7623ee58ce1c86e82277db0de51b4eeae4793f222d28f75adb", func := "cellarer/cellarerlaw09.BucketStays", spec := "bucketStays", inPlace := ["internal/abi.NoEscape"], unfollowed := true, recurses := true, plainKeys := false, apart := false }
def BucketStaysSaid : Prop := bucketStaysRow.holds Tryz.pinned (OpenSpec.ofChange bucketStaysSpec)

/-- ITS FALSE NEIGHBOUR: 'it returns false'. Refute it at one input. -/
def bucketStaysWrong : ChangeSpec := { name := "bucketStays", fn := fun _ => fun
  | [d] => { results := [.lit (.bool false)], args := [d] }
  | _ => none }
def BucketStaysWrongFalsely : Prop := bucketStaysRow.holds Tryz.pinned (OpenSpec.ofChange bucketStaysWrong)

/-- 'cellarerlaw09.BucketKeeps': WHATEVER THE INPUT: true; the input reads as it did. -/
def bucketKeepsSpec : ChangeSpec := { name := "bucketKeeps", fn := fun _ => fun
  | [d1, d2] => { results := [.lit (.bool true)], args := [d1, d2] }
  | _ => none }
def bucketKeepsRow : OpenClaim := { program := "ytjjlbbfhmpbneaagreat", sum := "6e6d7bd20004ff7623ee58ce1c86e82277db0de51b4eeae4793f222d28f75adb", func := "cellarer/cellarerlaw09.BucketKeeps", spec := "bucketKeeps", inPlace := ["internal/abi.NoEscape"], unfollowed := true, recurses := true, plainKeys := false, apart := false }
def BucketKeepsSaid : Prop := bucketKeepsRow.holds Tryz.pinned (OpenSpec.ofChange bucketKeepsSpec)

/-- ITS FALSE NEIGHBOUR: 'it returns false'. Refute it at one input. -/
def bucketKeepsWrong : ChangeSpec := { name := "bucketKeeps", fn := fun _ => fun
  | [d1, d2] => { results := [.lit (.bool false)], args := [d1, d2] }
  | _ => none }
def BucketKeepsWrongFalsely : Prop := bucketKeepsRow.holds Tryz.pinned (OpenSpec.ofChange bucketKeepsWrong)

/-- 'cellarerlaw09.BucketParts': WHATEVER THE INPUT: true; the input reads as it did. -/
def bucketPartsSpec : ChangeSpec := { name := "bucketParts", fn := fun _ => fun
  | [d1, d2, d3] => { results := [.lit (.bool true)], args := [d1, d2, d3] }
  | _ => none }
def bucketPartsRow : OpenClaim := { program := "ytjjlbbfhmpbneaagreat", sum := "6e6d7bd20004ff7623ee58ce1c86e82277db0de51b4eeae4793f222d28f75adb", func := "cellarer/cellarerlaw09.BucketParts", spec := "bucketParts", inPlace := ["internal/abi.NoEscape"], unfollowed := true, recurses := true, plainKeys := false, apart := false }
def BucketPartsSaid : Prop := bucketPartsRow.holds Tryz.pinned (OpenSpec.ofChange bucketPartsSpec)

/-- ITS FALSE NEIGHBOUR: 'it returns false'. Refute it at one input. -/
def bucketPartsWrong : ChangeSpec := { name := "bucketParts", fn := fun _ => fun
  | [d1, d2, d3] => { results := [.lit (.bool false)], args := [d1, d2, d3] }
  | _ => none }
def BucketPartsWrongFalsely : Prop := bucketPartsRow.holds Tryz.pinned (OpenSpec.ofChange bucketPartsWrong)

/-- 'cellarerlaw09.BucketOff': WHATEVER THE INPUT: true; the input reads as it did. -/
def bucketOffSpec : ChangeSpec := { name := "bucketOff", fn := fun _ => fun
  | [d] => { results := [.lit (.bool true)], args := [d] }
  | _ => none }
def bucketOffRow : OpenClaim := { program := "ytjjlbbfhmpbneaagreat", sum := "6e6d7bd20004ff7623ee58ce1c86e82277db0de51b4eeae4793f222d28f75adb", func := "cellarer/cellarerlaw09.BucketOff", spec := "bucketOff", inPlace := ["internal/abi.NoEscape"], unfollowed := true, recurses := true, plainKeys := false, apart := false }
def BucketOffSaid : Prop := bucketOffRow.holds Tryz.pinned (OpenSpec.ofChange bucketOffSpec)

/-- ITS FALSE NEIGHBOUR: 'it returns false'. Refute it at one input. -/
def bucketOffWrong : ChangeSpec := { name := "bucketOff", fn := fun _ => fun
  | [d] => { results := [.lit (.bool false)], args := [d] }
  | _ => none }
def BucketOffWrongFalsely : Prop := bucketOffRow.holds Tryz.pinned (OpenSpec.ofChange bucketOffWrong)

/-- 'cellarerlaw09.BucketTurns': WHATEVER THE INPUT: true; the input reads as it did. -/
def bucketTurnsSpec : ChangeSpec := { name := "bucketTurns", fn := fun _ => fun
  | [d1, d2, d3] => { results := [.lit (.bool true)], args := [d1, d2, d3] }
  | _ => none }
def bucketTurnsRow : OpenClaim := { program := "ytjjlbbfhmpbneaagreat", sum := "6e6d7bd20004ff7623ee58ce1c86e82277db0de51b4eeae4793f222d28f75adb", func := "cellarer/cellarerlaw09.BucketTurns", spec := "bucketTurns", inPlace := ["internal/abi.NoEscape"], unfollowed := true, recurses := true, plainKeys := false, apart := false }
def BucketTurnsSaid : Prop := bucketTurnsRow.holds Tryz.pinned (OpenSpec.ofChange bucketTurnsSpec)

/-- ITS FALSE NEIGHBOUR: 'it returns false'. Refute it at one input. -/
def bucketTurnsWrong : ChangeSpec := { name := "bucketTurns", fn := fun _ => fun
  | [d1, d2, d3] => { results := [.lit (.bool false)], args := [d1, d2, d3] }
  | _ => none }
def BucketTurnsWrongFalsely : Prop := bucketTurnsRow.holds Tryz.pinned (OpenSpec.ofChange bucketTurnsWrong)

/-- 'cellarerlaw09.BucketRoom': WHATEVER THE INPUT: true; the input reads as it did. -/
def bucketRoomSpec : ChangeSpec := { name := "bucketRoom", fn := fun _ => fun
  | [d1, d2, d3] => { results := [.lit (.bool true)], args := [d1, d2, d3] }
  | _ => none }
def bucketRoomRow : OpenClaim := { program := "ytjjlbbfhmpbneaagreat", sum := "6e6d7bd20004ff7623ee58ce1c86e82277db0de51b4eeae4793f222d28f75adb", func := "cellarer/cellarerlaw09.BucketRoom", spec := "bucketRoom", inPlace := ["internal/abi.NoEscape"], unfollowed := true, recurses := true, plainKeys := false, apart := false }
def BucketRoomSaid : Prop := bucketRoomRow.holds Tryz.pinned (OpenSpec.ofChange bucketRoomSpec)

/-- ITS FALSE NEIGHBOUR: 'it returns false'. Refute it at one input. -/
def bucketRoomWrong : ChangeSpec := { name := "bucketRoom", fn := fun _ => fun
  | [d1, d2, d3] => { results := [.lit (.bool false)], args := [d1, d2, d3] }
  | _ => none }
def BucketRoomWrongFalsely : Prop := bucketRoomRow.holds Tryz.pinned (OpenSpec.ofChange bucketRoomWrong)

/- THE SECOND FORM. 'bulk': how many values and letters a reading holds, each counted each time it is reached (what is shared counts as often as it is met; a slice's spare places count too). A statement '..UptoSaid' is the law's where the arguments, and the package variables that the reading takes, are together of bulk at most 1048576: NARROWER than '..Said'. Prove '..Said' where nothing that the law and all that it calls make is longer than what came in: it says more and counts as full. Else prove '..UptoSaid'. A law counts once. -/
mutual
def uptoBulk {H : Type} : DataW H → Nat
  | .lit (.string bytes) => bytes.length + 1
  | .lit _ => 1
  | .nil => 1
  | .ptr d => uptoBulk d + 1
  | .slice elems spare => uptoBulkAll elems + uptoBulkAll spare + 1
  | .agg parts => uptoBulkAll parts + 1
  | .iface _ d => uptoBulk d + 1
  | .map entries => uptoBulkEntries entries + 1
  | .held _ => 1
def uptoBulkAll {H : Type} : List (DataW H) → Nat
  | [] => 0
  | d :: r => uptoBulk d + uptoBulkAll r
def uptoBulkEntries {H : Type} : List (Lit × DataW H) → Nat
  | [] => 0
  | x :: r => uptoBulkEntry x + uptoBulkEntries r
def uptoBulkEntry {H : Type} : Lit × DataW H → Nat
  | (.string bytes, d) => bytes.length + uptoBulk d + 1
  | (_, d) => uptoBulk d + 1
 end
def uptoSmall : (H : Type) → List (DataW H) → Bool := fun _ ds => decide (uptoBulkAll ds ≤ 1048576)
def OpenSpec.upto (s : _root_.Go.ChangeSpec) : _root_.Go.OpenSpec := { _root_.Go.OpenSpec.ofChange s with cond := some uptoSmall }

/-- 'cellarerlaw09.BucketDoes', WHERE WHAT IT READS IS OF BULK AT MOST 1048576: true; the input reads as it did. -/
def bucketDoesUptoRow : OpenClaim := { program := "ytjjlbbfhmpbneaagreat", sum := "6e6d7bd20004ff7623ee58ce1c86e82277db0de51b4eeae4793f222d28f75adb", func := "cellarer/cellarerlaw09.BucketDoes", spec := "bucketDoes", inPlace := ["internal/abi.NoEscape"], unfollowed := true, recurses := true, plainKeys := false, apart := false, narrowed := true }
def BucketDoesUptoSaid : Prop := bucketDoesUptoRow.holds Tryz.pinned (OpenSpec.upto bucketDoesSpec)

/-- 'cellarerlaw09.BucketStays', WHERE WHAT IT READS IS OF BULK AT MOST 1048576: true; the input reads as it did. -/
def bucketStaysUptoRow : OpenClaim := { program := "ytjjlbbfhmpbneaagreat", sum := "6e6d7bd20004ff7623ee58ce1c86e82277db0de51b4eeae4793f222d28f75adb", func := "cellarer/cellarerlaw09.BucketStays", spec := "bucketStays", inPlace := ["internal/abi.NoEscape"], unfollowed := true, recurses := true, plainKeys := false, apart := false, narrowed := true }
def BucketStaysUptoSaid : Prop := bucketStaysUptoRow.holds Tryz.pinned (OpenSpec.upto bucketStaysSpec)

/-- 'cellarerlaw09.BucketKeeps', WHERE WHAT IT READS IS OF BULK AT MOST 1048576: true; the input reads as it did. -/
def bucketKeepsUptoRow : OpenClaim := { program := "ytjjlbbfhmpbneaagreat", sum := "6e6d7bd20004ff7623ee58ce1c86e82277db0de51b4eeae4793f222d28f75adb", func := "cellarer/cellarerlaw09.BucketKeeps", spec := "bucketKeeps", inPlace := ["internal/abi.NoEscape"], unfollowed := true, recurses := true, plainKeys := false, apart := false, narrowed := true }
def BucketKeepsUptoSaid : Prop := bucketKeepsUptoRow.holds Tryz.pinned (OpenSpec.upto bucketKeepsSpec)

/-- 'cellarerlaw09.BucketParts', WHERE WHAT IT READS IS OF BULK AT MOST 1048576: true; the input reads as it did. -/
def bucketPartsUptoRow : OpenClaim := { program := "ytjjlbbfhmpbneaagreat", sum := "6e6d7bd20004ff7623ee58ce1c86e82277db0de51b4eeae4793f222d28f75adb", func := "cellarer/cellarerlaw09.BucketParts", spec := "bucketParts", inPlace := ["internal/abi.NoEscape"], unfollowed := true, recurses := true, plainKeys := false, apart := false, narrowed := true }
def BucketPartsUptoSaid : Prop := bucketPartsUptoRow.holds Tryz.pinned (OpenSpec.upto bucketPartsSpec)

/-- 'cellarerlaw09.BucketOff', WHERE WHAT IT READS IS OF BULK AT MOST 1048576: true; the input reads as it did. -/
def bucketOffUptoRow : OpenClaim := { program := "ytjjlbbfhmpbneaagreat", sum := "6e6d7bd20004ff7623ee58ce1c86e82277db0de51b4eeae4793f222d28f75adb", func := "cellarer/cellarerlaw09.BucketOff", spec := "bucketOff", inPlace := ["internal/abi.NoEscape"], unfollowed := true, recurses := true, plainKeys := false, apart := false, narrowed := true }
def BucketOffUptoSaid : Prop := bucketOffUptoRow.holds Tryz.pinned (OpenSpec.upto bucketOffSpec)

/-- 'cellarerlaw09.BucketTurns', WHERE WHAT IT READS IS OF BULK AT MOST 1048576: true; the input reads as it did. -/
def bucketTurnsUptoRow : OpenClaim := { program := "ytjjlbbfhmpbneaagreat", sum := "6e6d7bd20004ff7623ee58ce1c86e82277db0de51b4eeae4793f222d28f75adb", func := "cellarer/cellarerlaw09.BucketTurns", spec := "bucketTurns", inPlace := ["internal/abi.NoEscape"], unfollowed := true, recurses := true, plainKeys := false, apart := false, narrowed := true }
def BucketTurnsUptoSaid : Prop := bucketTurnsUptoRow.holds Tryz.pinned (OpenSpec.upto bucketTurnsSpec)

/-- 'cellarerlaw09.BucketRoom', WHERE WHAT IT READS IS OF BULK AT MOST 1048576: true; the input reads as it did. -/
def bucketRoomUptoRow : OpenClaim := { program := "ytjjlbbfhmpbneaagreat", sum := "6e6d7bd20004ff7623ee58ce1c86e82277db0de51b4eeae4793f222d28f75adb", func := "cellarer/cellarerlaw09.BucketRoom", spec := "bucketRoom", inPlace := ["internal/abi.NoEscape"], unfollowed := true, recurses := true, plainKeys := false, apart := false, narrowed := true }
def BucketRoomUptoSaid : Prop := bucketRoomUptoRow.holds Tryz.pinned (OpenSpec.upto bucketRoomSpec)

end Rows
end Go.Proofs.YtjjlbbfhmpbneaaGreat

/-
  No cell of these rows narrows 'for every input' (looked for: loops, veiled, ifaces, maps, wideKeys, modest, calm, conditions, laid).
  DERIVED. THE GIVEN ROWS OF THIS SEAT. 7 by the template 'for every input the law returns true; each argument reads behind the call as it read before'; 0 by the template 'total and deterministic' (their statements: YtipipjpdlblifaaTotals.lean).
  GIVEN WITH THE SEED: the statements are not yours to turn. If you find one false, say at which input.
  Laid BY PROGRAM, IN A SANDBOX (cutbox-rows.mjs): the forced cells as the released guide's own fill.sh prints them over the translation d95879c7eba7385d… (all of the seat's roots in one cut). By AI agents, Wed Nov 11 2026. No macro, syntax, notation, axiom, sorry.
-/
import Derived.Test.YtipipjpdlblifaaChecked
import GoSem.Claim
import GoSem.ClaimJoined
import GoSem.ClaimMapViews
import Derived.JoinedTies
import Derived.KernelRfl
namespace Go.Proofs.Ytipipjpdlblifaa
/- THE CELL 'sum', in the pinned program and in every row, IS THE sha256 OF THE DUMP (.gsa) THAT YtipipjpdlblifaaProg.lean LOADS. Nothing in Lean hashes anything: it is a label: what it is worth is what the hold of that sum in a sandbox is worth. -/
noncomputable def Try.pinned : Pinned := { name := "ytipipjpdlblifaa", sum := "d95879c7eba7385d5b5e4169055f62e960a9c6849db19978885fe9545d3417ec", checked := Try.checked }
namespace Rows
def none {H : Type} : Left H := { results := [], args := [] }

/-- 'cellarerlaw07.PagerKeys': WHATEVER THE INPUT: true; the input reads as it did. -/
def pagerKeysSpec : ChangeSpec := { name := "pagerKeys", fn := fun _ => fun
  | [d] => { results := [.lit (.bool true)], args := [d] }
  | _ => none }
def pagerKeysRow : OpenClaim := { program := "ytipipjpdlblifaa", sum := "d95879c7eba7385d5b5e4169055f62e960a9c6849db19978885fe9545d3417ec", func := "cellarer/cellarerlaw07.PagerKeys", spec := "pagerKeys", unfollowed := true, recurses := true, apart := false }
def PagerKeysSaid : Prop := pagerKeysRow.holds Try.pinned (OpenSpec.ofChange pagerKeysSpec)

/-- ITS FALSE NEIGHBOUR: 'it returns false'. Refute it at one input. -/
def pagerKeysWrong : ChangeSpec := { name := "pagerKeys", fn := fun _ => fun
  | [d] => { results := [.lit (.bool false)], args := [d] }
  | _ => none }
def PagerKeysWrongFalsely : Prop := pagerKeysRow.holds Try.pinned (OpenSpec.ofChange pagerKeysWrong)

/-- 'cellarerlaw07.PagerRows': WHATEVER THE INPUT: true; the input reads as it did. -/
def pagerRowsSpec : ChangeSpec := { name := "pagerRows", fn := fun _ => fun
  | [d] => { results := [.lit (.bool true)], args := [d] }
  | _ => none }
def pagerRowsRow : OpenClaim := { program := "ytipipjpdlblifaa", sum := "d95879c7eba7385d5b5e4169055f62e960a9c6849db19978885fe9545d3417ec", func := "cellarer/cellarerlaw07.PagerRows", spec := "pagerRows", unfollowed := true, recurses := true, apart := false }
def PagerRowsSaid : Prop := pagerRowsRow.holds Try.pinned (OpenSpec.ofChange pagerRowsSpec)

/-- ITS FALSE NEIGHBOUR: 'it returns false'. Refute it at one input. -/
def pagerRowsWrong : ChangeSpec := { name := "pagerRows", fn := fun _ => fun
  | [d] => { results := [.lit (.bool false)], args := [d] }
  | _ => none }
def PagerRowsWrongFalsely : Prop := pagerRowsRow.holds Try.pinned (OpenSpec.ofChange pagerRowsWrong)

/-- 'cellarerlaw07.PagerWhole': WHATEVER THE INPUT: true; the input reads as it did. -/
def pagerWholeSpec : ChangeSpec := { name := "pagerWhole", fn := fun _ => fun
  | [d1, d2] => { results := [.lit (.bool true)], args := [d1, d2] }
  | _ => none }
def pagerWholeRow : OpenClaim := { program := "ytipipjpdlblifaa", sum := "d95879c7eba7385d5b5e4169055f62e960a9c6849db19978885fe9545d3417ec", func := "cellarer/cellarerlaw07.PagerWhole", spec := "pagerWhole", unfollowed := true, recurses := true, apart := false }
def PagerWholeSaid : Prop := pagerWholeRow.holds Try.pinned (OpenSpec.ofChange pagerWholeSpec)

/-- ITS FALSE NEIGHBOUR: 'it returns false'. Refute it at one input. -/
def pagerWholeWrong : ChangeSpec := { name := "pagerWhole", fn := fun _ => fun
  | [d1, d2] => { results := [.lit (.bool false)], args := [d1, d2] }
  | _ => none }
def PagerWholeWrongFalsely : Prop := pagerWholeRow.holds Try.pinned (OpenSpec.ofChange pagerWholeWrong)

/-- 'cellarerlaw07.PagerVersions': WHATEVER THE INPUT: true; the input reads as it did. -/
def pagerVersionsSpec : ChangeSpec := { name := "pagerVersions", fn := fun _ => fun
  | [d1, d2] => { results := [.lit (.bool true)], args := [d1, d2] }
  | _ => none }
def pagerVersionsRow : OpenClaim := { program := "ytipipjpdlblifaa", sum := "d95879c7eba7385d5b5e4169055f62e960a9c6849db19978885fe9545d3417ec", func := "cellarer/cellarerlaw07.PagerVersions", spec := "pagerVersions", unfollowed := true, recurses := true, apart := false }
def PagerVersionsSaid : Prop := pagerVersionsRow.holds Try.pinned (OpenSpec.ofChange pagerVersionsSpec)

/-- ITS FALSE NEIGHBOUR: 'it returns false'. Refute it at one input. -/
def pagerVersionsWrong : ChangeSpec := { name := "pagerVersions", fn := fun _ => fun
  | [d1, d2] => { results := [.lit (.bool false)], args := [d1, d2] }
  | _ => none }
def PagerVersionsWrongFalsely : Prop := pagerVersionsRow.holds Try.pinned (OpenSpec.ofChange pagerVersionsWrong)

/-- 'cellarerlaw07.PagerPlain': WHATEVER THE INPUT: true; the input reads as it did. -/
def pagerPlainSpec : ChangeSpec := { name := "pagerPlain", fn := fun _ => fun
  | [d1, d2] => { results := [.lit (.bool true)], args := [d1, d2] }
  | _ => none }
def pagerPlainRow : OpenClaim := { program := "ytipipjpdlblifaa", sum := "d95879c7eba7385d5b5e4169055f62e960a9c6849db19978885fe9545d3417ec", func := "cellarer/cellarerlaw07.PagerPlain", spec := "pagerPlain", unfollowed := true, recurses := true, apart := false }
def PagerPlainSaid : Prop := pagerPlainRow.holds Try.pinned (OpenSpec.ofChange pagerPlainSpec)

/-- ITS FALSE NEIGHBOUR: 'it returns false'. Refute it at one input. -/
def pagerPlainWrong : ChangeSpec := { name := "pagerPlain", fn := fun _ => fun
  | [d1, d2] => { results := [.lit (.bool false)], args := [d1, d2] }
  | _ => none }
def PagerPlainWrongFalsely : Prop := pagerPlainRow.holds Try.pinned (OpenSpec.ofChange pagerPlainWrong)

/-- 'cellarerlaw07.PagerGroups': WHATEVER THE INPUT: true; the input reads as it did. -/
def pagerGroupsSpec : ChangeSpec := { name := "pagerGroups", fn := fun _ => fun
  | [d1, d2, d3] => { results := [.lit (.bool true)], args := [d1, d2, d3] }
  | _ => none }
def pagerGroupsRow : OpenClaim := { program := "ytipipjpdlblifaa", sum := "d95879c7eba7385d5b5e4169055f62e960a9c6849db19978885fe9545d3417ec", func := "cellarer/cellarerlaw07.PagerGroups", spec := "pagerGroups", unfollowed := true, recurses := true, apart := false }
def PagerGroupsSaid : Prop := pagerGroupsRow.holds Try.pinned (OpenSpec.ofChange pagerGroupsSpec)

/-- ITS FALSE NEIGHBOUR: 'it returns false'. Refute it at one input. -/
def pagerGroupsWrong : ChangeSpec := { name := "pagerGroups", fn := fun _ => fun
  | [d1, d2, d3] => { results := [.lit (.bool false)], args := [d1, d2, d3] }
  | _ => none }
def PagerGroupsWrongFalsely : Prop := pagerGroupsRow.holds Try.pinned (OpenSpec.ofChange pagerGroupsWrong)

/-- 'cellarerlaw07.PagerSizes': WHATEVER THE INPUT: true; the input reads as it did. -/
def pagerSizesSpec : ChangeSpec := { name := "pagerSizes", fn := fun _ => fun
  | [d1, d2, d3] => { results := [.lit (.bool true)], args := [d1, d2, d3] }
  | _ => none }
def pagerSizesRow : OpenClaim := { program := "ytipipjpdlblifaa", sum := "d95879c7eba7385d5b5e4169055f62e960a9c6849db19978885fe9545d3417ec", func := "cellarer/cellarerlaw07.PagerSizes", spec := "pagerSizes", unfollowed := true, recurses := true, apart := false }
def PagerSizesSaid : Prop := pagerSizesRow.holds Try.pinned (OpenSpec.ofChange pagerSizesSpec)

/-- ITS FALSE NEIGHBOUR: 'it returns false'. Refute it at one input. -/
def pagerSizesWrong : ChangeSpec := { name := "pagerSizes", fn := fun _ => fun
  | [d1, d2, d3] => { results := [.lit (.bool false)], args := [d1, d2, d3] }
  | _ => none }
def PagerSizesWrongFalsely : Prop := pagerSizesRow.holds Try.pinned (OpenSpec.ofChange pagerSizesWrong)

/- THE SECOND FORM. 'bulk': how many values and letters a reading holds, each counted each time it is reached (what is shared counts as often as it is met; a slice's spare places count too). A statement '..UptoSaid' is the law's where the arguments, and the package variables that the reading takes, are together of bulk at most 1048576: NARROWER than '..Said'. Prove '..Said' where nothing that the law and all that it calls make is longer than what came in: it says more and counts as full. Else prove '..UptoSaid'. A law counts once. -/
mutual
def uptoBulk {H : Type} : DataW H → Nat
  | .lit (.string bytes) => bytes.length + 1
  | .lit _ => 1
  | .nil => 1
  | .ptr d => uptoBulk d + 1
  | .slice elems spare => uptoBulkAll elems + uptoBulkAll spare + 1
  | .agg parts => uptoBulkAll parts + 1
  | .iface _ d => uptoBulk d + 1
  | .map entries => uptoBulkEntries entries + 1
  | .held _ => 1
def uptoBulkAll {H : Type} : List (DataW H) → Nat
  | [] => 0
  | d :: r => uptoBulk d + uptoBulkAll r
def uptoBulkEntries {H : Type} : List (Lit × DataW H) → Nat
  | [] => 0
  | x :: r => uptoBulkEntry x + uptoBulkEntries r
def uptoBulkEntry {H : Type} : Lit × DataW H → Nat
  | (.string bytes, d) => bytes.length + uptoBulk d + 1
  | (_, d) => uptoBulk d + 1
 end
def uptoSmall : (H : Type) → List (DataW H) → Bool := fun _ ds => decide (uptoBulkAll ds ≤ 1048576)
def OpenSpec.upto (s : _root_.Go.ChangeSpec) : _root_.Go.OpenSpec := { _root_.Go.OpenSpec.ofChange s with cond := some uptoSmall }

/-- 'cellarerlaw07.PagerKeys', WHERE WHAT IT READS IS OF BULK AT MOST 1048576: true; the input reads as it did. -/
def pagerKeysUptoRow : OpenClaim := { program := "ytipipjpdlblifaa", sum := "d95879c7eba7385d5b5e4169055f62e960a9c6849db19978885fe9545d3417ec", func := "cellarer/cellarerlaw07.PagerKeys", spec := "pagerKeys", unfollowed := true, recurses := true, apart := false, narrowed := true }
def PagerKeysUptoSaid : Prop := pagerKeysUptoRow.holds Try.pinned (OpenSpec.upto pagerKeysSpec)

/-- 'cellarerlaw07.PagerRows', WHERE WHAT IT READS IS OF BULK AT MOST 1048576: true; the input reads as it did. -/
def pagerRowsUptoRow : OpenClaim := { program := "ytipipjpdlblifaa", sum := "d95879c7eba7385d5b5e4169055f62e960a9c6849db19978885fe9545d3417ec", func := "cellarer/cellarerlaw07.PagerRows", spec := "pagerRows", unfollowed := true, recurses := true, apart := false, narrowed := true }
def PagerRowsUptoSaid : Prop := pagerRowsUptoRow.holds Try.pinned (OpenSpec.upto pagerRowsSpec)

/-- 'cellarerlaw07.PagerWhole', WHERE WHAT IT READS IS OF BULK AT MOST 1048576: true; the input reads as it did. -/
def pagerWholeUptoRow : OpenClaim := { program := "ytipipjpdlblifaa", sum := "d95879c7eba7385d5b5e4169055f62e960a9c6849db19978885fe9545d3417ec", func := "cellarer/cellarerlaw07.PagerWhole", spec := "pagerWhole", unfollowed := true, recurses := true, apart := false, narrowed := true }
def PagerWholeUptoSaid : Prop := pagerWholeUptoRow.holds Try.pinned (OpenSpec.upto pagerWholeSpec)

/-- 'cellarerlaw07.PagerVersions', WHERE WHAT IT READS IS OF BULK AT MOST 1048576: true; the input reads as it did. -/
def pagerVersionsUptoRow : OpenClaim := { program := "ytipipjpdlblifaa", sum := "d95879c7eba7385d5b5e4169055f62e960a9c6849db19978885fe9545d3417ec", func := "cellarer/cellarerlaw07.PagerVersions", spec := "pagerVersions", unfollowed := true, recurses := true, apart := false, narrowed := true }
def PagerVersionsUptoSaid : Prop := pagerVersionsUptoRow.holds Try.pinned (OpenSpec.upto pagerVersionsSpec)

/-- 'cellarerlaw07.PagerPlain', WHERE WHAT IT READS IS OF BULK AT MOST 1048576: true; the input reads as it did. -/
def pagerPlainUptoRow : OpenClaim := { program := "ytipipjpdlblifaa", sum := "d95879c7eba7385d5b5e4169055f62e960a9c6849db19978885fe9545d3417ec", func := "cellarer/cellarerlaw07.PagerPlain", spec := "pagerPlain", unfollowed := true, recurses := true, apart := false, narrowed := true }
def PagerPlainUptoSaid : Prop := pagerPlainUptoRow.holds Try.pinned (OpenSpec.upto pagerPlainSpec)

/-- 'cellarerlaw07.PagerGroups', WHERE WHAT IT READS IS OF BULK AT MOST 1048576: true; the input reads as it did. -/
def pagerGroupsUptoRow : OpenClaim := { program := "ytipipjpdlblifaa", sum := "d95879c7eba7385d5b5e4169055f62e960a9c6849db19978885fe9545d3417ec", func := "cellarer/cellarerlaw07.PagerGroups", spec := "pagerGroups", unfollowed := true, recurses := true, apart := false, narrowed := true }
def PagerGroupsUptoSaid : Prop := pagerGroupsUptoRow.holds Try.pinned (OpenSpec.upto pagerGroupsSpec)

/-- 'cellarerlaw07.PagerSizes', WHERE WHAT IT READS IS OF BULK AT MOST 1048576: true; the input reads as it did. -/
def pagerSizesUptoRow : OpenClaim := { program := "ytipipjpdlblifaa", sum := "d95879c7eba7385d5b5e4169055f62e960a9c6849db19978885fe9545d3417ec", func := "cellarer/cellarerlaw07.PagerSizes", spec := "pagerSizes", unfollowed := true, recurses := true, apart := false, narrowed := true }
def PagerSizesUptoSaid : Prop := pagerSizesUptoRow.holds Try.pinned (OpenSpec.upto pagerSizesSpec)

end Rows
end Go.Proofs.Ytipipjpdlblifaa

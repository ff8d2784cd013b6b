/-
  No cell of these rows narrows 'for every input' (looked for: loops, veiled, ifaces, maps, wideKeys, modest, calm, conditions, laid).
  DERIVED. THE GIVEN ROWS OF THIS SEAT. 6 by the template 'for every input the law returns true; each argument reads behind the call as it read before'; 0 by the template 'total and deterministic' (their statements: YteoondmakdghhaaTotals.lean).
  GIVEN WITH THE SEED: the statements are not yours to turn. If you find one false, say at which input.
  Laid BY PROGRAM, IN A SANDBOX (cutbox-rows.mjs): the forced cells as the released guide's own fill.sh prints them over the translation a819b29a2bf9f071… (all of the seat's roots in one cut). By AI agents, Wed Nov 11 2026. No macro, syntax, notation, axiom, sorry.
-/
import Derived.Test.YteoondmakdghhaaChecked
import GoSem.Claim
import GoSem.ClaimJoined
import GoSem.ClaimMapViews
import Derived.JoinedTies
import Derived.KernelRfl
namespace Go.Proofs.Yteoondmakdghhaa
/- THE CELL 'sum', in the pinned program and in every row, IS THE sha256 OF THE DUMP (.gsa) THAT YteoondmakdghhaaProg.lean LOADS. Nothing in Lean hashes anything: it is a label: what it is worth is what the hold of that sum in a sandbox is worth. -/
noncomputable def Try.pinned : Pinned := { name := "yteoondmakdghhaa", sum := "a819b29a2bf9f0718b680b85781fc632e3cb7d655212ef630d161bdc1078a86a", checked := Try.checked }
namespace Rows
def none {H : Type} : Left H := { results := [], args := [] }

/-- 'cellarerlaw13.ZoneReads': WHATEVER THE INPUT: true; the input reads as it did. -/
def zoneReadsSpec : ChangeSpec := { name := "zoneReads", fn := fun _ => fun
  | [d] => { results := [.lit (.bool true)], args := [d] }
  | _ => none }
def zoneReadsRow : OpenClaim := { program := "yteoondmakdghhaa", sum := "a819b29a2bf9f0718b680b85781fc632e3cb7d655212ef630d161bdc1078a86a", func := "cellarer/cellarerlaw13.ZoneReads", spec := "zoneReads", unfollowed := true, recurses := true, apart := false }
def ZoneReadsSaid : Prop := zoneReadsRow.holds Try.pinned (OpenSpec.ofChange zoneReadsSpec)

/-- ITS FALSE NEIGHBOUR: 'it returns false'. Refute it at one input. -/
def zoneReadsWrong : ChangeSpec := { name := "zoneReads", fn := fun _ => fun
  | [d] => { results := [.lit (.bool false)], args := [d] }
  | _ => none }
def ZoneReadsWrongFalsely : Prop := zoneReadsRow.holds Try.pinned (OpenSpec.ofChange zoneReadsWrong)

/-- 'cellarerlaw13.ZoneStays': WHATEVER THE INPUT: true; the input reads as it did. -/
def zoneStaysSpec : ChangeSpec := { name := "zoneStays", fn := fun _ => fun
  | [d1, d2] => { results := [.lit (.bool true)], args := [d1, d2] }
  | _ => none }
def zoneStaysRow : OpenClaim := { program := "yteoondmakdghhaa", sum := "a819b29a2bf9f0718b680b85781fc632e3cb7d655212ef630d161bdc1078a86a", func := "cellarer/cellarerlaw13.ZoneStays", spec := "zoneStays", unfollowed := true, recurses := true, apart := false }
def ZoneStaysSaid : Prop := zoneStaysRow.holds Try.pinned (OpenSpec.ofChange zoneStaysSpec)

/-- ITS FALSE NEIGHBOUR: 'it returns false'. Refute it at one input. -/
def zoneStaysWrong : ChangeSpec := { name := "zoneStays", fn := fun _ => fun
  | [d1, d2] => { results := [.lit (.bool false)], args := [d1, d2] }
  | _ => none }
def ZoneStaysWrongFalsely : Prop := zoneStaysRow.holds Try.pinned (OpenSpec.ofChange zoneStaysWrong)

/-- 'cellarerlaw13.ZoneHolds': WHATEVER THE INPUT: true; the input reads as it did. -/
def zoneHoldsSpec : ChangeSpec := { name := "zoneHolds", fn := fun _ => fun
  | [d1, d2, d3] => { results := [.lit (.bool true)], args := [d1, d2, d3] }
  | _ => none }
def zoneHoldsRow : OpenClaim := { program := "yteoondmakdghhaa", sum := "a819b29a2bf9f0718b680b85781fc632e3cb7d655212ef630d161bdc1078a86a", func := "cellarer/cellarerlaw13.ZoneHolds", spec := "zoneHolds", unfollowed := true, recurses := true, apart := false }
def ZoneHoldsSaid : Prop := zoneHoldsRow.holds Try.pinned (OpenSpec.ofChange zoneHoldsSpec)

/-- ITS FALSE NEIGHBOUR: 'it returns false'. Refute it at one input. -/
def zoneHoldsWrong : ChangeSpec := { name := "zoneHolds", fn := fun _ => fun
  | [d1, d2, d3] => { results := [.lit (.bool false)], args := [d1, d2, d3] }
  | _ => none }
def ZoneHoldsWrongFalsely : Prop := zoneHoldsRow.holds Try.pinned (OpenSpec.ofChange zoneHoldsWrong)

/-- 'cellarerlaw13.ZoneTorn': WHATEVER THE INPUT: true; the input reads as it did. -/
def zoneTornSpec : ChangeSpec := { name := "zoneTorn", fn := fun _ => fun
  | [d] => { results := [.lit (.bool true)], args := [d] }
  | _ => none }
def zoneTornRow : OpenClaim := { program := "yteoondmakdghhaa", sum := "a819b29a2bf9f0718b680b85781fc632e3cb7d655212ef630d161bdc1078a86a", func := "cellarer/cellarerlaw13.ZoneTorn", spec := "zoneTorn", unfollowed := true, recurses := true, apart := false }
def ZoneTornSaid : Prop := zoneTornRow.holds Try.pinned (OpenSpec.ofChange zoneTornSpec)

/-- ITS FALSE NEIGHBOUR: 'it returns false'. Refute it at one input. -/
def zoneTornWrong : ChangeSpec := { name := "zoneTorn", fn := fun _ => fun
  | [d] => { results := [.lit (.bool false)], args := [d] }
  | _ => none }
def ZoneTornWrongFalsely : Prop := zoneTornRow.holds Try.pinned (OpenSpec.ofChange zoneTornWrong)

/-- 'cellarerlaw13.ZoneFuels': WHATEVER THE INPUT: true; the input reads as it did. -/
def zoneFuelsSpec : ChangeSpec := { name := "zoneFuels", fn := fun _ => fun
  | [d1, d2] => { results := [.lit (.bool true)], args := [d1, d2] }
  | _ => none }
def zoneFuelsRow : OpenClaim := { program := "yteoondmakdghhaa", sum := "a819b29a2bf9f0718b680b85781fc632e3cb7d655212ef630d161bdc1078a86a", func := "cellarer/cellarerlaw13.ZoneFuels", spec := "zoneFuels", unfollowed := true, recurses := true, apart := false }
def ZoneFuelsSaid : Prop := zoneFuelsRow.holds Try.pinned (OpenSpec.ofChange zoneFuelsSpec)

/-- ITS FALSE NEIGHBOUR: 'it returns false'. Refute it at one input. -/
def zoneFuelsWrong : ChangeSpec := { name := "zoneFuels", fn := fun _ => fun
  | [d1, d2] => { results := [.lit (.bool false)], args := [d1, d2] }
  | _ => none }
def ZoneFuelsWrongFalsely : Prop := zoneFuelsRow.holds Try.pinned (OpenSpec.ofChange zoneFuelsWrong)

/-- 'cellarerlaw13.ZoneApart': WHATEVER THE INPUT: true; the input reads as it did. -/
def zoneApartSpec : ChangeSpec := { name := "zoneApart", fn := fun _ => fun
  | [d1, d2] => { results := [.lit (.bool true)], args := [d1, d2] }
  | _ => none }
def zoneApartRow : OpenClaim := { program := "yteoondmakdghhaa", sum := "a819b29a2bf9f0718b680b85781fc632e3cb7d655212ef630d161bdc1078a86a", func := "cellarer/cellarerlaw13.ZoneApart", spec := "zoneApart", unfollowed := true, recurses := true, apart := false }
def ZoneApartSaid : Prop := zoneApartRow.holds Try.pinned (OpenSpec.ofChange zoneApartSpec)

/-- ITS FALSE NEIGHBOUR: 'it returns false'. Refute it at one input. -/
def zoneApartWrong : ChangeSpec := { name := "zoneApart", fn := fun _ => fun
  | [d1, d2] => { results := [.lit (.bool false)], args := [d1, d2] }
  | _ => none }
def ZoneApartWrongFalsely : Prop := zoneApartRow.holds Try.pinned (OpenSpec.ofChange zoneApartWrong)

/- THE SECOND FORM. 'bulk': how many values and letters a reading holds, each counted each time it is reached (what is shared counts as often as it is met; a slice's spare places count too). A statement '..UptoSaid' is the law's where the arguments, and the package variables that the reading takes, are together of bulk at most 1048576: NARROWER than '..Said'. Prove '..Said' where nothing that the law and all that it calls make is longer than what came in: it says more and counts as full. Else prove '..UptoSaid'. A law counts once. -/
mutual
def uptoBulk {H : Type} : DataW H → Nat
  | .lit (.string bytes) => bytes.length + 1
  | .lit _ => 1
  | .nil => 1
  | .ptr d => uptoBulk d + 1
  | .slice elems spare => uptoBulkAll elems + uptoBulkAll spare + 1
  | .agg parts => uptoBulkAll parts + 1
  | .iface _ d => uptoBulk d + 1
  | .map entries => uptoBulkEntries entries + 1
  | .held _ => 1
def uptoBulkAll {H : Type} : List (DataW H) → Nat
  | [] => 0
  | d :: r => uptoBulk d + uptoBulkAll r
def uptoBulkEntries {H : Type} : List (Lit × DataW H) → Nat
  | [] => 0
  | x :: r => uptoBulkEntry x + uptoBulkEntries r
def uptoBulkEntry {H : Type} : Lit × DataW H → Nat
  | (.string bytes, d) => bytes.length + uptoBulk d + 1
  | (_, d) => uptoBulk d + 1
 end
def uptoSmall : (H : Type) → List (DataW H) → Bool := fun _ ds => decide (uptoBulkAll ds ≤ 1048576)
def OpenSpec.upto (s : _root_.Go.ChangeSpec) : _root_.Go.OpenSpec := { _root_.Go.OpenSpec.ofChange s with cond := some uptoSmall }

/-- 'cellarerlaw13.ZoneReads', WHERE WHAT IT READS IS OF BULK AT MOST 1048576: true; the input reads as it did. -/
def zoneReadsUptoRow : OpenClaim := { program := "yteoondmakdghhaa", sum := "a819b29a2bf9f0718b680b85781fc632e3cb7d655212ef630d161bdc1078a86a", func := "cellarer/cellarerlaw13.ZoneReads", spec := "zoneReads", unfollowed := true, recurses := true, apart := false, narrowed := true }
def ZoneReadsUptoSaid : Prop := zoneReadsUptoRow.holds Try.pinned (OpenSpec.upto zoneReadsSpec)

/-- 'cellarerlaw13.ZoneStays', WHERE WHAT IT READS IS OF BULK AT MOST 1048576: true; the input reads as it did. -/
def zoneStaysUptoRow : OpenClaim := { program := "yteoondmakdghhaa", sum := "a819b29a2bf9f0718b680b85781fc632e3cb7d655212ef630d161bdc1078a86a", func := "cellarer/cellarerlaw13.ZoneStays", spec := "zoneStays", unfollowed := true, recurses := true, apart := false, narrowed := true }
def ZoneStaysUptoSaid : Prop := zoneStaysUptoRow.holds Try.pinned (OpenSpec.upto zoneStaysSpec)

/-- 'cellarerlaw13.ZoneHolds', WHERE WHAT IT READS IS OF BULK AT MOST 1048576: true; the input reads as it did. -/
def zoneHoldsUptoRow : OpenClaim := { program := "yteoondmakdghhaa", sum := "a819b29a2bf9f0718b680b85781fc632e3cb7d655212ef630d161bdc1078a86a", func := "cellarer/cellarerlaw13.ZoneHolds", spec := "zoneHolds", unfollowed := true, recurses := true, apart := false, narrowed := true }
def ZoneHoldsUptoSaid : Prop := zoneHoldsUptoRow.holds Try.pinned (OpenSpec.upto zoneHoldsSpec)

/-- 'cellarerlaw13.ZoneTorn', WHERE WHAT IT READS IS OF BULK AT MOST 1048576: true; the input reads as it did. -/
def zoneTornUptoRow : OpenClaim := { program := "yteoondmakdghhaa", sum := "a819b29a2bf9f0718b680b85781fc632e3cb7d655212ef630d161bdc1078a86a", func := "cellarer/cellarerlaw13.ZoneTorn", spec := "zoneTorn", unfollowed := true, recurses := true, apart := false, narrowed := true }
def ZoneTornUptoSaid : Prop := zoneTornUptoRow.holds Try.pinned (OpenSpec.upto zoneTornSpec)

/-- 'cellarerlaw13.ZoneFuels', WHERE WHAT IT READS IS OF BULK AT MOST 1048576: true; the input reads as it did. -/
def zoneFuelsUptoRow : OpenClaim := { program := "yteoondmakdghhaa", sum := "a819b29a2bf9f0718b680b85781fc632e3cb7d655212ef630d161bdc1078a86a", func := "cellarer/cellarerlaw13.ZoneFuels", spec := "zoneFuels", unfollowed := true, recurses := true, apart := false, narrowed := true }
def ZoneFuelsUptoSaid : Prop := zoneFuelsUptoRow.holds Try.pinned (OpenSpec.upto zoneFuelsSpec)

/-- 'cellarerlaw13.ZoneApart', WHERE WHAT IT READS IS OF BULK AT MOST 1048576: true; the input reads as it did. -/
def zoneApartUptoRow : OpenClaim := { program := "yteoondmakdghhaa", sum := "a819b29a2bf9f0718b680b85781fc632e3cb7d655212ef630d161bdc1078a86a", func := "cellarer/cellarerlaw13.ZoneApart", spec := "zoneApart", unfollowed := true, recurses := true, apart := false, narrowed := true }
def ZoneApartUptoSaid : Prop := zoneApartUptoRow.holds Try.pinned (OpenSpec.upto zoneApartSpec)

end Rows
end Go.Proofs.Yteoondmakdghhaa

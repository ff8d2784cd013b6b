/-
  No cell of these rows narrows 'for every input' (looked for: loops, veiled, ifaces, maps, wideKeys, modest, calm, conditions, laid).
  DERIVED. THE GIVEN ROWS OF THIS SEAT. 7 by the template 'for every input the law returns true; each argument reads behind the call as it read before'; 0 by the template 'total and deterministic' (their statements: YtpcanlafbcdmcaaTotals.lean).
  GIVEN WITH THE SEED: the statements are not yours to turn. If you find one false, say at which input.
  Laid BY PROGRAM, IN A SANDBOX (cutbox-rows.mjs): the forced cells as the released guide's own fill.sh prints them over the translation e487cd21fe425456… (all of the seat's roots in one cut). By AI agents, Wed Nov 11 2026. No macro, syntax, notation, axiom, sorry.
-/
import Derived.Test.YtpcanlafbcdmcaaChecked
import GoSem.Claim
import GoSem.ClaimJoined
import GoSem.ClaimMapViews
import Derived.JoinedTies
import Derived.KernelRfl
namespace Go.Proofs.Ytpcanlafbcdmcaa
/- THE CELL 'sum', in the pinned program and in every row, IS THE sha256 OF THE DUMP (.gsa) THAT YtpcanlafbcdmcaaProg.lean LOADS. Nothing in Lean hashes anything: it is a label: what it is worth is what the hold of that sum in a sandbox is worth. -/
noncomputable def Try.pinned : Pinned := { name := "ytpcanlafbcdmcaa", sum := "e487cd21fe42545667bfc1bf5679c515016d78e4e059aaf3a63a360724968d9e", checked := Try.checked }
namespace Rows
def none {H : Type} : Left H := { results := [], args := [] }

/-- 'cellarerlaw14.BlockLays': WHATEVER THE INPUT: true; the input reads as it did. -/
def blockLaysSpec : ChangeSpec := { name := "blockLays", fn := fun _ => fun
  | [d1, d2] => { results := [.lit (.bool true)], args := [d1, d2] }
  | _ => none }
def blockLaysRow : OpenClaim := { program := "ytpcanlafbcdmcaa", sum := "e487cd21fe42545667bfc1bf5679c515016d78e4e059aaf3a63a360724968d9e", func := "cellarer/cellarerlaw14.BlockLays", spec := "blockLays", unfollowed := true, recurses := true, apart := false }
def BlockLaysSaid : Prop := blockLaysRow.holds Try.pinned (OpenSpec.ofChange blockLaysSpec)

/-- ITS FALSE NEIGHBOUR: 'it returns false'. Refute it at one input. -/
def blockLaysWrong : ChangeSpec := { name := "blockLays", fn := fun _ => fun
  | [d1, d2] => { results := [.lit (.bool false)], args := [d1, d2] }
  | _ => none }
def BlockLaysWrongFalsely : Prop := blockLaysRow.holds Try.pinned (OpenSpec.ofChange blockLaysWrong)

/-- 'cellarerlaw14.BlockScans': WHATEVER THE INPUT: true; the input reads as it did. -/
def blockScansSpec : ChangeSpec := { name := "blockScans", fn := fun _ => fun
  | [d] => { results := [.lit (.bool true)], args := [d] }
  | _ => none }
def blockScansRow : OpenClaim := { program := "ytpcanlafbcdmcaa", sum := "e487cd21fe42545667bfc1bf5679c515016d78e4e059aaf3a63a360724968d9e", func := "cellarer/cellarerlaw14.BlockScans", spec := "blockScans", unfollowed := true, recurses := true, apart := false }
def BlockScansSaid : Prop := blockScansRow.holds Try.pinned (OpenSpec.ofChange blockScansSpec)

/-- ITS FALSE NEIGHBOUR: 'it returns false'. Refute it at one input. -/
def blockScansWrong : ChangeSpec := { name := "blockScans", fn := fun _ => fun
  | [d] => { results := [.lit (.bool false)], args := [d] }
  | _ => none }
def BlockScansWrongFalsely : Prop := blockScansRow.holds Try.pinned (OpenSpec.ofChange blockScansWrong)

/-- 'cellarerlaw14.BlockCuts': WHATEVER THE INPUT: true; the input reads as it did. -/
def blockCutsSpec : ChangeSpec := { name := "blockCuts", fn := fun _ => fun
  | [d1, d2, d3] => { results := [.lit (.bool true)], args := [d1, d2, d3] }
  | _ => none }
def blockCutsRow : OpenClaim := { program := "ytpcanlafbcdmcaa", sum := "e487cd21fe42545667bfc1bf5679c515016d78e4e059aaf3a63a360724968d9e", func := "cellarer/cellarerlaw14.BlockCuts", spec := "blockCuts", unfollowed := true, recurses := true, apart := false }
def BlockCutsSaid : Prop := blockCutsRow.holds Try.pinned (OpenSpec.ofChange blockCutsSpec)

/-- ITS FALSE NEIGHBOUR: 'it returns false'. Refute it at one input. -/
def blockCutsWrong : ChangeSpec := { name := "blockCuts", fn := fun _ => fun
  | [d1, d2, d3] => { results := [.lit (.bool false)], args := [d1, d2, d3] }
  | _ => none }
def BlockCutsWrongFalsely : Prop := blockCutsRow.holds Try.pinned (OpenSpec.ofChange blockCutsWrong)

/-- 'cellarerlaw14.BlockForges': WHATEVER THE INPUT: true; the input reads as it did. -/
def blockForgesSpec : ChangeSpec := { name := "blockForges", fn := fun _ => fun
  | [d1, d2] => { results := [.lit (.bool true)], args := [d1, d2] }
  | _ => none }
def blockForgesRow : OpenClaim := { program := "ytpcanlafbcdmcaa", sum := "e487cd21fe42545667bfc1bf5679c515016d78e4e059aaf3a63a360724968d9e", func := "cellarer/cellarerlaw14.BlockForges", spec := "blockForges", unfollowed := true, recurses := true, apart := false }
def BlockForgesSaid : Prop := blockForgesRow.holds Try.pinned (OpenSpec.ofChange blockForgesSpec)

/-- ITS FALSE NEIGHBOUR: 'it returns false'. Refute it at one input. -/
def blockForgesWrong : ChangeSpec := { name := "blockForges", fn := fun _ => fun
  | [d1, d2] => { results := [.lit (.bool false)], args := [d1, d2] }
  | _ => none }
def BlockForgesWrongFalsely : Prop := blockForgesRow.holds Try.pinned (OpenSpec.ofChange blockForgesWrong)

/-- 'cellarerlaw14.BlockRooms': WHATEVER THE INPUT: true; the input reads as it did. -/
def blockRoomsSpec : ChangeSpec := { name := "blockRooms", fn := fun _ => fun
  | [d1, d2] => { results := [.lit (.bool true)], args := [d1, d2] }
  | _ => none }
def blockRoomsRow : OpenClaim := { program := "ytpcanlafbcdmcaa", sum := "e487cd21fe42545667bfc1bf5679c515016d78e4e059aaf3a63a360724968d9e", func := "cellarer/cellarerlaw14.BlockRooms", spec := "blockRooms", unfollowed := true, recurses := true, apart := false }
def BlockRoomsSaid : Prop := blockRoomsRow.holds Try.pinned (OpenSpec.ofChange blockRoomsSpec)

/-- ITS FALSE NEIGHBOUR: 'it returns false'. Refute it at one input. -/
def blockRoomsWrong : ChangeSpec := { name := "blockRooms", fn := fun _ => fun
  | [d1, d2] => { results := [.lit (.bool false)], args := [d1, d2] }
  | _ => none }
def BlockRoomsWrongFalsely : Prop := blockRoomsRow.holds Try.pinned (OpenSpec.ofChange blockRoomsWrong)

/-- 'cellarerlaw14.BlockApart': WHATEVER THE INPUT: true; the input reads as it did. -/
def blockApartSpec : ChangeSpec := { name := "blockApart", fn := fun _ => fun
  | [d1, d2] => { results := [.lit (.bool true)], args := [d1, d2] }
  | _ => none }
def blockApartRow : OpenClaim := { program := "ytpcanlafbcdmcaa", sum := "e487cd21fe42545667bfc1bf5679c515016d78e4e059aaf3a63a360724968d9e", func := "cellarer/cellarerlaw14.BlockApart", spec := "blockApart", unfollowed := true, recurses := true, apart := false }
def BlockApartSaid : Prop := blockApartRow.holds Try.pinned (OpenSpec.ofChange blockApartSpec)

/-- ITS FALSE NEIGHBOUR: 'it returns false'. Refute it at one input. -/
def blockApartWrong : ChangeSpec := { name := "blockApart", fn := fun _ => fun
  | [d1, d2] => { results := [.lit (.bool false)], args := [d1, d2] }
  | _ => none }
def BlockApartWrongFalsely : Prop := blockApartRow.holds Try.pinned (OpenSpec.ofChange blockApartWrong)

/-- 'cellarerlaw14.BlockSpoilt': WHATEVER THE INPUT: true; the input reads as it did. -/
def blockSpoiltSpec : ChangeSpec := { name := "blockSpoilt", fn := fun _ => fun
  | [d1, d2, d3] => { results := [.lit (.bool true)], args := [d1, d2, d3] }
  | _ => none }
def blockSpoiltRow : OpenClaim := { program := "ytpcanlafbcdmcaa", sum := "e487cd21fe42545667bfc1bf5679c515016d78e4e059aaf3a63a360724968d9e", func := "cellarer/cellarerlaw14.BlockSpoilt", spec := "blockSpoilt", unfollowed := true, recurses := true, apart := false }
def BlockSpoiltSaid : Prop := blockSpoiltRow.holds Try.pinned (OpenSpec.ofChange blockSpoiltSpec)

/-- ITS FALSE NEIGHBOUR: 'it returns false'. Refute it at one input. -/
def blockSpoiltWrong : ChangeSpec := { name := "blockSpoilt", fn := fun _ => fun
  | [d1, d2, d3] => { results := [.lit (.bool false)], args := [d1, d2, d3] }
  | _ => none }
def BlockSpoiltWrongFalsely : Prop := blockSpoiltRow.holds Try.pinned (OpenSpec.ofChange blockSpoiltWrong)

/- THE SECOND FORM. 'bulk': how many values and letters a reading holds, each counted each time it is reached (what is shared counts as often as it is met; a slice's spare places count too). A statement '..UptoSaid' is the law's where the arguments, and the package variables that the reading takes, are together of bulk at most 1048576: NARROWER than '..Said'. Prove '..Said' where nothing that the law and all that it calls make is longer than what came in: it says more and counts as full. Else prove '..UptoSaid'. A law counts once. -/
mutual
def uptoBulk {H : Type} : DataW H → Nat
  | .lit (.string bytes) => bytes.length + 1
  | .lit _ => 1
  | .nil => 1
  | .ptr d => uptoBulk d + 1
  | .slice elems spare => uptoBulkAll elems + uptoBulkAll spare + 1
  | .agg parts => uptoBulkAll parts + 1
  | .iface _ d => uptoBulk d + 1
  | .map entries => uptoBulkEntries entries + 1
  | .held _ => 1
def uptoBulkAll {H : Type} : List (DataW H) → Nat
  | [] => 0
  | d :: r => uptoBulk d + uptoBulkAll r
def uptoBulkEntries {H : Type} : List (Lit × DataW H) → Nat
  | [] => 0
  | x :: r => uptoBulkEntry x + uptoBulkEntries r
def uptoBulkEntry {H : Type} : Lit × DataW H → Nat
  | (.string bytes, d) => bytes.length + uptoBulk d + 1
  | (_, d) => uptoBulk d + 1
 end
def uptoSmall : (H : Type) → List (DataW H) → Bool := fun _ ds => decide (uptoBulkAll ds ≤ 1048576)
def OpenSpec.upto (s : _root_.Go.ChangeSpec) : _root_.Go.OpenSpec := { _root_.Go.OpenSpec.ofChange s with cond := some uptoSmall }

/-- 'cellarerlaw14.BlockLays', WHERE WHAT IT READS IS OF BULK AT MOST 1048576: true; the input reads as it did. -/
def blockLaysUptoRow : OpenClaim := { program := "ytpcanlafbcdmcaa", sum := "e487cd21fe42545667bfc1bf5679c515016d78e4e059aaf3a63a360724968d9e", func := "cellarer/cellarerlaw14.BlockLays", spec := "blockLays", unfollowed := true, recurses := true, apart := false, narrowed := true }
def BlockLaysUptoSaid : Prop := blockLaysUptoRow.holds Try.pinned (OpenSpec.upto blockLaysSpec)

/-- 'cellarerlaw14.BlockScans', WHERE WHAT IT READS IS OF BULK AT MOST 1048576: true; the input reads as it did. -/
def blockScansUptoRow : OpenClaim := { program := "ytpcanlafbcdmcaa", sum := "e487cd21fe42545667bfc1bf5679c515016d78e4e059aaf3a63a360724968d9e", func := "cellarer/cellarerlaw14.BlockScans", spec := "blockScans", unfollowed := true, recurses := true, apart := false, narrowed := true }
def BlockScansUptoSaid : Prop := blockScansUptoRow.holds Try.pinned (OpenSpec.upto blockScansSpec)

/-- 'cellarerlaw14.BlockCuts', WHERE WHAT IT READS IS OF BULK AT MOST 1048576: true; the input reads as it did. -/
def blockCutsUptoRow : OpenClaim := { program := "ytpcanlafbcdmcaa", sum := "e487cd21fe42545667bfc1bf5679c515016d78e4e059aaf3a63a360724968d9e", func := "cellarer/cellarerlaw14.BlockCuts", spec := "blockCuts", unfollowed := true, recurses := true, apart := false, narrowed := true }
def BlockCutsUptoSaid : Prop := blockCutsUptoRow.holds Try.pinned (OpenSpec.upto blockCutsSpec)

/-- 'cellarerlaw14.BlockForges', WHERE WHAT IT READS IS OF BULK AT MOST 1048576: true; the input reads as it did. -/
def blockForgesUptoRow : OpenClaim := { program := "ytpcanlafbcdmcaa", sum := "e487cd21fe42545667bfc1bf5679c515016d78e4e059aaf3a63a360724968d9e", func := "cellarer/cellarerlaw14.BlockForges", spec := "blockForges", unfollowed := true, recurses := true, apart := false, narrowed := true }
def BlockForgesUptoSaid : Prop := blockForgesUptoRow.holds Try.pinned (OpenSpec.upto blockForgesSpec)

/-- 'cellarerlaw14.BlockRooms', WHERE WHAT IT READS IS OF BULK AT MOST 1048576: true; the input reads as it did. -/
def blockRoomsUptoRow : OpenClaim := { program := "ytpcanlafbcdmcaa", sum := "e487cd21fe42545667bfc1bf5679c515016d78e4e059aaf3a63a360724968d9e", func := "cellarer/cellarerlaw14.BlockRooms", spec := "blockRooms", unfollowed := true, recurses := true, apart := false, narrowed := true }
def BlockRoomsUptoSaid : Prop := blockRoomsUptoRow.holds Try.pinned (OpenSpec.upto blockRoomsSpec)

/-- 'cellarerlaw14.BlockApart', WHERE WHAT IT READS IS OF BULK AT MOST 1048576: true; the input reads as it did. -/
def blockApartUptoRow : OpenClaim := { program := "ytpcanlafbcdmcaa", sum := "e487cd21fe42545667bfc1bf5679c515016d78e4e059aaf3a63a360724968d9e", func := "cellarer/cellarerlaw14.BlockApart", spec := "blockApart", unfollowed := true, recurses := true, apart := false, narrowed := true }
def BlockApartUptoSaid : Prop := blockApartUptoRow.holds Try.pinned (OpenSpec.upto blockApartSpec)

/-- 'cellarerlaw14.BlockSpoilt', WHERE WHAT IT READS IS OF BULK AT MOST 1048576: true; the input reads as it did. -/
def blockSpoiltUptoRow : OpenClaim := { program := "ytpcanlafbcdmcaa", sum := "e487cd21fe42545667bfc1bf5679c515016d78e4e059aaf3a63a360724968d9e", func := "cellarer/cellarerlaw14.BlockSpoilt", spec := "blockSpoilt", unfollowed := true, recurses := true, apart := false, narrowed := true }
def BlockSpoiltUptoSaid : Prop := blockSpoiltUptoRow.holds Try.pinned (OpenSpec.upto blockSpoiltSpec)

end Rows
end Go.Proofs.Ytpcanlafbcdmcaa

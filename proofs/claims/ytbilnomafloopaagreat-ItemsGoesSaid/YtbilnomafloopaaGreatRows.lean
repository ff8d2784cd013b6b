/-
  No cell of these rows narrows 'for every input' (looked for: loops, veiled, ifaces, maps, wideKeys, modest, calm, conditions, laid).
  DERIVED. THE GIVEN ROWS OF THIS SEAT. 8 by the template 'for every input the law returns true; each argument reads behind the call as it read before'; 0 by the template 'total and deterministic' (their statements: YtbilnomafloopaaGreatTotals.lean).
  GIVEN WITH THE SEED: the statements are not yours to turn. If you find one false, say at which input.
  Laid BY PROGRAM, IN A SANDBOX (cutbox-rows.mjs): the forced cells as the released guide's own fill.sh prints them over the translation 123c626bf33f0f18… (all of the seat's roots in one cut). By AI agents, Wed Nov 11 2026. No macro, syntax, notation, axiom, sorry.
-/
import Derived.Test.YtbilnomafloopaaGreatChecked
import GoSem.Claim
import GoSem.ClaimJoined
import GoSem.ClaimMapViews
import Derived.JoinedTies
import Derived.KernelRfl
namespace Go.Proofs.YtbilnomafloopaaGreat
/- THE CELL 'sum', in the pinned program and in every row, IS THE sha256 OF THE DUMP (.gsa) THAT YtbilnomafloopaaGreatProg.lean LOADS. Nothing in Lean hashes anything: it is a label: what it is worth is what the hold of that sum in a sandbox is worth. -/
noncomputable def Tryz.pinned : Pinned := { name := "ytbilnomafloopaagreat", sum := "123c626bf33f0f184b1d9429e9594a29a5b872fb9ee02f7614f2ef34ffc1ca87", checked := Tryz.checked }
namespace Rows
def none {H : Type} : Left H := { results := [], args := [] }

/-- 'cellarerlaw11.ItemsOf': WHATEVER THE INPUT: true; the input reads as it did. -/
def itemsOfSpec : ChangeSpec := { name := "itemsOf", fn := fun _ => fun
  | [d] => { results := [.lit (.bool true)], args := [d] }
  | _ => none }
def itemsOfRow : OpenClaim := { program := "ytbilnomafloopaagreat", sum := "123c626bf33f0f184b1d9429e9594a29a5b872fb9ee02f7614f2ef34ffc1ca87", func := "cellarer/cellarerlaw11.ItemsOf", spec := "itemsOf", inPlace := ["internal/bytealg.IndexByteString", "internal/bytealg.IndexString"], unfollowed := true, recurses := true, named := ["internal/bytealg.MaxLen"], plainKeys := false, apart := false }
def ItemsOfSaid : Prop := itemsOfRow.holds Tryz.pinned (OpenSpec.ofChange itemsOfSpec)

/-- ITS FALSE NEIGHBOUR: 'it returns false'. Refute it at one input. -/
def itemsOfWrong : ChangeSpec := { name := "itemsOf", fn := fun _ => fun
  | [d] => { results := [.lit (.bool false)], args := [d] }
  | _ => none }
def ItemsOfWrongFalsely : Prop := itemsOfRow.holds Tryz.pinned (OpenSpec.ofChange itemsOfWrong)

/-- 'cellarerlaw11.ItemsBuild': WHATEVER THE INPUT: true; the input reads as it did. -/
def itemsBuildSpec : ChangeSpec := { name := "itemsBuild", fn := fun _ => fun
  | [d] => { results := [.lit (.bool true)], args := [d] }
  | _ => none }
def itemsBuildRow : OpenClaim := { program := "ytbilnomafloopaagreat", sum := "123c626bf33f0f184b1d9429e9594a29a5b872fb9ee02f7614f2ef34ffc1ca87", func := "cellarer/cellarerlaw11.ItemsBuild", spec := "itemsBuild", inPlace := ["internal/bytealg.IndexByteString", "internal/bytealg.IndexString"], unfollowed := true, recurses := true, named := ["internal/bytealg.MaxLen"], plainKeys := false, apart := false }
def ItemsBuildSaid : Prop := itemsBuildRow.holds Tryz.pinned (OpenSpec.ofChange itemsBuildSpec)

/-- ITS FALSE NEIGHBOUR: 'it returns false'. Refute it at one input. -/
def itemsBuildWrong : ChangeSpec := { name := "itemsBuild", fn := fun _ => fun
  | [d] => { results := [.lit (.bool false)], args := [d] }
  | _ => none }
def ItemsBuildWrongFalsely : Prop := itemsBuildRow.holds Tryz.pinned (OpenSpec.ofChange itemsBuildWrong)

/-- 'cellarerlaw11.ItemsDiffs': WHATEVER THE INPUT: true; the input reads as it did. -/
def itemsDiffsSpec : ChangeSpec := { name := "itemsDiffs", fn := fun _ => fun
  | [d1, d2, d3] => { results := [.lit (.bool true)], args := [d1, d2, d3] }
  | _ => none }
def itemsDiffsRow : OpenClaim := { program := "ytbilnomafloopaagreat", sum := "123c626bf33f0f184b1d9429e9594a29a5b872fb9ee02f7614f2ef34ffc1ca87", func := "cellarer/cellarerlaw11.ItemsDiffs", spec := "itemsDiffs", inPlace := ["internal/bytealg.IndexByteString", "internal/bytealg.IndexString"], unfollowed := true, recurses := true, named := ["internal/bytealg.MaxLen"], plainKeys := false, apart := false }
def ItemsDiffsSaid : Prop := itemsDiffsRow.holds Tryz.pinned (OpenSpec.ofChange itemsDiffsSpec)

/-- ITS FALSE NEIGHBOUR: 'it returns false'. Refute it at one input. -/
def itemsDiffsWrong : ChangeSpec := { name := "itemsDiffs", fn := fun _ => fun
  | [d1, d2, d3] => { results := [.lit (.bool false)], args := [d1, d2, d3] }
  | _ => none }
def ItemsDiffsWrongFalsely : Prop := itemsDiffsRow.holds Tryz.pinned (OpenSpec.ofChange itemsDiffsWrong)

/-- 'cellarerlaw11.ItemsGoes': WHATEVER THE INPUT: true; the input reads as it did. -/
def itemsGoesSpec : ChangeSpec := { name := "itemsGoes", fn := fun _ => fun
  | [d1, d2, d3] => { results := [.lit (.bool true)], args := [d1, d2, d3] }
  | _ => none }
def itemsGoesRow : OpenClaim := { program := "ytbilnomafloopaagreat", sum := "123c626bf33f0f184b1d9429e9594a29a5b872fb9ee02f7614f2ef34ffc1ca87", func := "cellarer/cellarerlaw11.ItemsGoes", spec := "itemsGoes", inPlace := ["internal/bytealg.IndexByteString", "internal/bytealg.IndexString"], unfollowed := true, recurses := true, named := ["internal/bytealg.MaxLen"], plainKeys := false, apart := false }
def ItemsGoesSaid : Prop := itemsGoesRow.holds Tryz.pinned (OpenSpec.ofChange itemsGoesSpec)

/-- ITS FALSE NEIGHBOUR: 'it returns false'. Refute it at one input. -/
def itemsGoesWrong : ChangeSpec := { name := "itemsGoes", fn := fun _ => fun
  | [d1, d2, d3] => { results := [.lit (.bool false)], args := [d1, d2, d3] }
  | _ => none }
def ItemsGoesWrongFalsely : Prop := itemsGoesRow.holds Tryz.pinned (OpenSpec.ofChange itemsGoesWrong)

/-- 'cellarerlaw11.ItemsFew': WHATEVER THE INPUT: true; the input reads as it did. -/
def itemsFewSpec : ChangeSpec := { name := "itemsFew", fn := fun _ => fun
  | [d1, d2] => { results := [.lit (.bool true)], args := [d1, d2] }
  | _ => none }
def itemsFewRow : OpenClaim := { program := "ytbilnomafloopaagreat", sum := "123c626bf33f0f184b1d9429e9594a29a5b872fb9ee02f7614f2ef34ffc1ca87", func := "cellarer/cellarerlaw11.ItemsFew", spec := "itemsFew", inPlace := ["internal/bytealg.IndexByteString", "internal/bytealg.IndexString"], unfollowed := true, recurses := true, named := ["internal/bytealg.MaxLen"], plainKeys := false, apart := false }
def ItemsFewSaid : Prop := itemsFewRow.holds Tryz.pinned (OpenSpec.ofChange itemsFewSpec)

/-- ITS FALSE NEIGHBOUR: 'it returns false'. Refute it at one input. -/
def itemsFewWrong : ChangeSpec := { name := "itemsFew", fn := fun _ => fun
  | [d1, d2] => { results := [.lit (.bool false)], args := [d1, d2] }
  | _ => none }
def ItemsFewWrongFalsely : Prop := itemsFewRow.holds Tryz.pinned (OpenSpec.ofChange itemsFewWrong)

/-- 'cellarerlaw11.ItemsNames': WHATEVER THE INPUT: true; the input reads as it did. -/
def itemsNamesSpec : ChangeSpec := { name := "itemsNames", fn := fun _ => fun
  | [d] => { results := [.lit (.bool true)], args := [d] }
  | _ => none }
def itemsNamesRow : OpenClaim := { program := "ytbilnomafloopaagreat", sum := "123c626bf33f0f184b1d9429e9594a29a5b872fb9ee02f7614f2ef34ffc1ca87", func := "cellarer/cellarerlaw11.ItemsNames", spec := "itemsNames", inPlace := ["internal/bytealg.IndexByteString", "internal/bytealg.IndexString"], unfollowed := true, recurses := true, named := ["internal/bytealg.MaxLen"], plainKeys := false, apart := false }
def ItemsNamesSaid : Prop := itemsNamesRow.holds Tryz.pinned (OpenSpec.ofChange itemsNamesSpec)

/-- ITS FALSE NEIGHBOUR: 'it returns false'. Refute it at one input. -/
def itemsNamesWrong : ChangeSpec := { name := "itemsNames", fn := fun _ => fun
  | [d] => { results := [.lit (.bool false)], args := [d] }
  | _ => none }
def ItemsNamesWrongFalsely : Prop := itemsNamesRow.holds Tryz.pinned (OpenSpec.ofChange itemsNamesWrong)

/-- 'cellarerlaw11.ItemsLess': WHATEVER THE INPUT: true; the input reads as it did. -/
def itemsLessSpec : ChangeSpec := { name := "itemsLess", fn := fun _ => fun
  | [d1, d2, d3] => { results := [.lit (.bool true)], args := [d1, d2, d3] }
  | _ => none }
def itemsLessRow : OpenClaim := { program := "ytbilnomafloopaagreat", sum := "123c626bf33f0f184b1d9429e9594a29a5b872fb9ee02f7614f2ef34ffc1ca87", func := "cellarer/cellarerlaw11.ItemsLess", spec := "itemsLess", inPlace := ["internal/bytealg.IndexByteString", "internal/bytealg.IndexString"], unfollowed := true, recurses := true, named := ["internal/bytealg.MaxLen"], plainKeys := false, apart := false }
def ItemsLessSaid : Prop := itemsLessRow.holds Tryz.pinned (OpenSpec.ofChange itemsLessSpec)

/-- ITS FALSE NEIGHBOUR: 'it returns false'. Refute it at one input. -/
def itemsLessWrong : ChangeSpec := { name := "itemsLess", fn := fun _ => fun
  | [d1, d2, d3] => { results := [.lit (.bool false)], args := [d1, d2, d3] }
  | _ => none }
def ItemsLessWrongFalsely : Prop := itemsLessRow.holds Tryz.pinned (OpenSpec.ofChange itemsLessWrong)

/-- 'cellarerlaw11.ItemsBack': WHATEVER THE INPUT: true; the input reads as it did. -/
def itemsBackSpec : ChangeSpec := { name := "itemsBack", fn := fun _ => fun
  | [d1, d2] => { results := [.lit (.bool true)], args := [d1, d2] }
  | _ => none }
def itemsBackRow : OpenClaim := { program := "ytbilnomafloopaagreat", sum := "123c626bf33f0f184b1d9429e9594a29a5b872fb9ee02f7614f2ef34ffc1ca87", func := "cellarer/cellarerlaw11.ItemsBack", spec := "itemsBack", inPlace := ["internal/bytealg.IndexByteString", "internal/bytealg.IndexString"], unfollowed := true, recurses := true, named := ["internal/bytealg.MaxLen"], plainKeys := false, apart := false }
def ItemsBackSaid : Prop := itemsBackRow.holds Tryz.pinned (OpenSpec.ofChange itemsBackSpec)

/-- ITS FALSE NEIGHBOUR: 'it returns false'. Refute it at one input. -/
def itemsBackWrong : ChangeSpec := { name := "itemsBack", fn := fun _ => fun
  | [d1, d2] => { results := [.lit (.bool false)], args := [d1, d2] }
  | _ => none }
def ItemsBackWrongFalsely : Prop := itemsBackRow.holds Tryz.pinned (OpenSpec.ofChange itemsBackWrong)

/- THE SECOND FORM. 'bulk': how many values and letters a reading holds, each counted each time it is reached (what is shared counts as often as it is met; a slice's spare places count too). A statement '..UptoSaid' is the law's where the arguments, and the package variables that the reading takes, are together of bulk at most 1048576: NARROWER than '..Said'. Prove '..Said' where nothing that the law and all that it calls make is longer than what came in: it says more and counts as full. Else prove '..UptoSaid'. A law counts once. -/
mutual
def uptoBulk {H : Type} : DataW H → Nat
  | .lit (.string bytes) => bytes.length + 1
  | .lit _ => 1
  | .nil => 1
  | .ptr d => uptoBulk d + 1
  | .slice elems spare => uptoBulkAll elems + uptoBulkAll spare + 1
  | .agg parts => uptoBulkAll parts + 1
  | .iface _ d => uptoBulk d + 1
  | .map entries => uptoBulkEntries entries + 1
  | .held _ => 1
def uptoBulkAll {H : Type} : List (DataW H) → Nat
  | [] => 0
  | d :: r => uptoBulk d + uptoBulkAll r
def uptoBulkEntries {H : Type} : List (Lit × DataW H) → Nat
  | [] => 0
  | x :: r => uptoBulkEntry x + uptoBulkEntries r
def uptoBulkEntry {H : Type} : Lit × DataW H → Nat
  | (.string bytes, d) => bytes.length + uptoBulk d + 1
  | (_, d) => uptoBulk d + 1
 end
def uptoSmall : (H : Type) → List (DataW H) → Bool := fun _ ds => decide (uptoBulkAll ds ≤ 1048576)
def OpenSpec.upto (s : _root_.Go.ChangeSpec) : _root_.Go.OpenSpec := { _root_.Go.OpenSpec.ofChange s with cond := some uptoSmall }

/-- 'cellarerlaw11.ItemsOf', WHERE WHAT IT READS IS OF BULK AT MOST 1048576: true; the input reads as it did. -/
def itemsOfUptoRow : OpenClaim := { program := "ytbilnomafloopaagreat", sum := "123c626bf33f0f184b1d9429e9594a29a5b872fb9ee02f7614f2ef34ffc1ca87", func := "cellarer/cellarerlaw11.ItemsOf", spec := "itemsOf", inPlace := ["internal/bytealg.IndexByteString", "internal/bytealg.IndexString"], unfollowed := true, recurses := true, named := ["internal/bytealg.MaxLen"], plainKeys := false, apart := false, narrowed := true }
def ItemsOfUptoSaid : Prop := itemsOfUptoRow.holds Tryz.pinned (OpenSpec.upto itemsOfSpec)

/-- 'cellarerlaw11.ItemsBuild', WHERE WHAT IT READS IS OF BULK AT MOST 1048576: true; the input reads as it did. -/
def itemsBuildUptoRow : OpenClaim := { program := "ytbilnomafloopaagreat", sum := "123c626bf33f0f184b1d9429e9594a29a5b872fb9ee02f7614f2ef34ffc1ca87", func := "cellarer/cellarerlaw11.ItemsBuild", spec := "itemsBuild", inPlace := ["internal/bytealg.IndexByteString", "internal/bytealg.IndexString"], unfollowed := true, recurses := true, named := ["internal/bytealg.MaxLen"], plainKeys := false, apart := false, narrowed := true }
def ItemsBuildUptoSaid : Prop := itemsBuildUptoRow.holds Tryz.pinned (OpenSpec.upto itemsBuildSpec)

/-- 'cellarerlaw11.ItemsDiffs', WHERE WHAT IT READS IS OF BULK AT MOST 1048576: true; the input reads as it did. -/
def itemsDiffsUptoRow : OpenClaim := { program := "ytbilnomafloopaagreat", sum := "123c626bf33f0f184b1d9429e9594a29a5b872fb9ee02f7614f2ef34ffc1ca87", func := "cellarer/cellarerlaw11.ItemsDiffs", spec := "itemsDiffs", inPlace := ["internal/bytealg.IndexByteString", "internal/bytealg.IndexString"], unfollowed := true, recurses := true, named := ["internal/bytealg.MaxLen"], plainKeys := false, apart := false, narrowed := true }
def ItemsDiffsUptoSaid : Prop := itemsDiffsUptoRow.holds Tryz.pinned (OpenSpec.upto itemsDiffsSpec)

/-- 'cellarerlaw11.ItemsGoes', WHERE WHAT IT READS IS OF BULK AT MOST 1048576: true; the input reads as it did. -/
def itemsGoesUptoRow : OpenClaim := { program := "ytbilnomafloopaagreat", sum := "123c626bf33f0f184b1d9429e9594a29a5b872fb9ee02f7614f2ef34ffc1ca87", func := "cellarer/cellarerlaw11.ItemsGoes", spec := "itemsGoes", inPlace := ["internal/bytealg.IndexByteString", "internal/bytealg.IndexString"], unfollowed := true, recurses := true, named := ["internal/bytealg.MaxLen"], plainKeys := false, apart := false, narrowed := true }
def ItemsGoesUptoSaid : Prop := itemsGoesUptoRow.holds Tryz.pinned (OpenSpec.upto itemsGoesSpec)

/-- 'cellarerlaw11.ItemsFew', WHERE WHAT IT READS IS OF BULK AT MOST 1048576: true; the input reads as it did. -/
def itemsFewUptoRow : OpenClaim := { program := "ytbilnomafloopaagreat", sum := "123c626bf33f0f184b1d9429e9594a29a5b872fb9ee02f7614f2ef34ffc1ca87", func := "cellarer/cellarerlaw11.ItemsFew", spec := "itemsFew", inPlace := ["internal/bytealg.IndexByteString", "internal/bytealg.IndexString"], unfollowed := true, recurses := true, named := ["internal/bytealg.MaxLen"], plainKeys := false, apart := false, narrowed := true }
def ItemsFewUptoSaid : Prop := itemsFewUptoRow.holds Tryz.pinned (OpenSpec.upto itemsFewSpec)

/-- 'cellarerlaw11.ItemsNames', WHERE WHAT IT READS IS OF BULK AT MOST 1048576: true; the input reads as it did. -/
def itemsNamesUptoRow : OpenClaim := { program := "ytbilnomafloopaagreat", sum := "123c626bf33f0f184b1d9429e9594a29a5b872fb9ee02f7614f2ef34ffc1ca87", func := "cellarer/cellarerlaw11.ItemsNames", spec := "itemsNames", inPlace := ["internal/bytealg.IndexByteString", "internal/bytealg.IndexString"], unfollowed := true, recurses := true, named := ["internal/bytealg.MaxLen"], plainKeys := false, apart := false, narrowed := true }
def ItemsNamesUptoSaid : Prop := itemsNamesUptoRow.holds Tryz.pinned (OpenSpec.upto itemsNamesSpec)

/-- 'cellarerlaw11.ItemsLess', WHERE WHAT IT READS IS OF BULK AT MOST 1048576: true; the input reads as it did. -/
def itemsLessUptoRow : OpenClaim := { program := "ytbilnomafloopaagreat", sum := "123c626bf33f0f184b1d9429e9594a29a5b872fb9ee02f7614f2ef34ffc1ca87", func := "cellarer/cellarerlaw11.ItemsLess", spec := "itemsLess", inPlace := ["internal/bytealg.IndexByteString", "internal/bytealg.IndexString"], unfollowed := true, recurses := true, named := ["internal/bytealg.MaxLen"], plainKeys := false, apart := false, narrowed := true }
def ItemsLessUptoSaid : Prop := itemsLessUptoRow.holds Tryz.pinned (OpenSpec.upto itemsLessSpec)

/-- 'cellarerlaw11.ItemsBack', WHERE WHAT IT READS IS OF BULK AT MOST 1048576: true; the input reads as it did. -/
def itemsBackUptoRow : OpenClaim := { program := "ytbilnomafloopaagreat", sum := "123c626bf33f0f184b1d9429e9594a29a5b872fb9ee02f7614f2ef34ffc1ca87", func := "cellarer/cellarerlaw11.ItemsBack", spec := "itemsBack", inPlace := ["internal/bytealg.IndexByteString", "internal/bytealg.IndexString"], unfollowed := true, recurses := true, named := ["internal/bytealg.MaxLen"], plainKeys := false, apart := false, narrowed := true }
def ItemsBackUptoSaid : Prop := itemsBackUptoRow.holds Tryz.pinned (OpenSpec.upto itemsBackSpec)

end Rows
end Go.Proofs.YtbilnomafloopaaGreat

/-
  No cell of these rows narrows 'for every input' (looked for: loops, veiled, ifaces, maps, wideKeys, modest, calm, conditions, laid).
  DERIVED. THE GIVEN ROWS OF THIS SEAT. 7 by the template 'for every input the law returns true; each argument reads behind the call as it read before'; 0 by the template 'total and deterministic' (their statements: YtffhpgdlnohgjaaTotals.lean).
  GIVEN WITH THE SEED: the statements are not yours to turn. If you find one false, say at which input.
  Laid BY PROGRAM, IN A SANDBOX (cutbox-rows.mjs): the forced cells as the released guide's own fill.sh prints them over the translation fc97350d0fe559cb… (all of the seat's roots in one cut). By AI agents, Wed Nov 11 2026. No macro, syntax, notation, axiom, sorry.
-/
import Derived.Test.YtffhpgdlnohgjaaChecked
import GoSem.Claim
import GoSem.ClaimJoined
import GoSem.ClaimMapViews
import Derived.JoinedTies
import Derived.KernelRfl
namespace Go.Proofs.Ytffhpgdlnohgjaa
/- THE CELL 'sum', in the pinned program and in every row, IS THE sha256 OF THE DUMP (.gsa) THAT YtffhpgdlnohgjaaProg.lean LOADS. Nothing in Lean hashes anything: it is a label: what it is worth is what the hold of that sum in a sandbox is worth. -/
noncomputable def Try.pinned : Pinned := { name := "ytffhpgdlnohgjaa", sum := "fc97350d0fe559cbc90839278188fc90cd25ec4bf0f6fe062dfcd3245d0495e9", checked := Try.checked }
namespace Rows
def none {H : Type} : Left H := { results := [], args := [] }

/-- 'cellarerlaw04.TagOfs': WHATEVER THE INPUT: true; the input reads as it did. -/
def tagOfsSpec : ChangeSpec := { name := "tagOfs", fn := fun _ => fun
  | [d1, d2] => { results := [.lit (.bool true)], args := [d1, d2] }
  | _ => none }
def tagOfsRow : OpenClaim := { program := "ytffhpgdlnohgjaa", sum := "fc97350d0fe559cbc90839278188fc90cd25ec4bf0f6fe062dfcd3245d0495e9", func := "cellarer/cellarerlaw04.TagOfs", spec := "tagOfs", apart := false }
def TagOfsSaid : Prop := tagOfsRow.holds Try.pinned (OpenSpec.ofChange tagOfsSpec)

/-- ITS FALSE NEIGHBOUR: 'it returns false'. Refute it at one input. -/
def tagOfsWrong : ChangeSpec := { name := "tagOfs", fn := fun _ => fun
  | [d1, d2] => { results := [.lit (.bool false)], args := [d1, d2] }
  | _ => none }
def TagOfsWrongFalsely : Prop := tagOfsRow.holds Try.pinned (OpenSpec.ofChange tagOfsWrong)

/-- 'cellarerlaw04.TagTexts': WHATEVER THE INPUT: true; the input reads as it did. -/
def tagTextsSpec : ChangeSpec := { name := "tagTexts", fn := fun _ => fun
  | [d1, d2] => { results := [.lit (.bool true)], args := [d1, d2] }
  | _ => none }
def tagTextsRow : OpenClaim := { program := "ytffhpgdlnohgjaa", sum := "fc97350d0fe559cbc90839278188fc90cd25ec4bf0f6fe062dfcd3245d0495e9", func := "cellarer/cellarerlaw04.TagTexts", spec := "tagTexts", apart := false }
def TagTextsSaid : Prop := tagTextsRow.holds Try.pinned (OpenSpec.ofChange tagTextsSpec)

/-- ITS FALSE NEIGHBOUR: 'it returns false'. Refute it at one input. -/
def tagTextsWrong : ChangeSpec := { name := "tagTexts", fn := fun _ => fun
  | [d1, d2] => { results := [.lit (.bool false)], args := [d1, d2] }
  | _ => none }
def TagTextsWrongFalsely : Prop := tagTextsRow.holds Try.pinned (OpenSpec.ofChange tagTextsWrong)

/-- 'cellarerlaw04.TagCuts': WHATEVER THE INPUT: true; the input reads as it did. -/
def tagCutsSpec : ChangeSpec := { name := "tagCuts", fn := fun _ => fun
  | [d1, d2] => { results := [.lit (.bool true)], args := [d1, d2] }
  | _ => none }
def tagCutsRow : OpenClaim := { program := "ytffhpgdlnohgjaa", sum := "fc97350d0fe559cbc90839278188fc90cd25ec4bf0f6fe062dfcd3245d0495e9", func := "cellarer/cellarerlaw04.TagCuts", spec := "tagCuts", apart := false }
def TagCutsSaid : Prop := tagCutsRow.holds Try.pinned (OpenSpec.ofChange tagCutsSpec)

/-- ITS FALSE NEIGHBOUR: 'it returns false'. Refute it at one input. -/
def tagCutsWrong : ChangeSpec := { name := "tagCuts", fn := fun _ => fun
  | [d1, d2] => { results := [.lit (.bool false)], args := [d1, d2] }
  | _ => none }
def TagCutsWrongFalsely : Prop := tagCutsRow.holds Try.pinned (OpenSpec.ofChange tagCutsWrong)

/-- 'cellarerlaw04.TagSums': WHATEVER THE INPUT: true; the input reads as it did. -/
def tagSumsSpec : ChangeSpec := { name := "tagSums", fn := fun _ => fun
  | [d1, d2, d3] => { results := [.lit (.bool true)], args := [d1, d2, d3] }
  | _ => none }
def tagSumsRow : OpenClaim := { program := "ytffhpgdlnohgjaa", sum := "fc97350d0fe559cbc90839278188fc90cd25ec4bf0f6fe062dfcd3245d0495e9", func := "cellarer/cellarerlaw04.TagSums", spec := "tagSums", apart := false }
def TagSumsSaid : Prop := tagSumsRow.holds Try.pinned (OpenSpec.ofChange tagSumsSpec)

/-- ITS FALSE NEIGHBOUR: 'it returns false'. Refute it at one input. -/
def tagSumsWrong : ChangeSpec := { name := "tagSums", fn := fun _ => fun
  | [d1, d2, d3] => { results := [.lit (.bool false)], args := [d1, d2, d3] }
  | _ => none }
def TagSumsWrongFalsely : Prop := tagSumsRow.holds Try.pinned (OpenSpec.ofChange tagSumsWrong)

/-- 'cellarerlaw04.TagSigns': WHATEVER THE INPUT: true; the input reads as it did. -/
def tagSignsSpec : ChangeSpec := { name := "tagSigns", fn := fun _ => fun
  | [d1, d2] => { results := [.lit (.bool true)], args := [d1, d2] }
  | _ => none }
def tagSignsRow : OpenClaim := { program := "ytffhpgdlnohgjaa", sum := "fc97350d0fe559cbc90839278188fc90cd25ec4bf0f6fe062dfcd3245d0495e9", func := "cellarer/cellarerlaw04.TagSigns", spec := "tagSigns", apart := false }
def TagSignsSaid : Prop := tagSignsRow.holds Try.pinned (OpenSpec.ofChange tagSignsSpec)

/-- ITS FALSE NEIGHBOUR: 'it returns false'. Refute it at one input. -/
def tagSignsWrong : ChangeSpec := { name := "tagSigns", fn := fun _ => fun
  | [d1, d2] => { results := [.lit (.bool false)], args := [d1, d2] }
  | _ => none }
def TagSignsWrongFalsely : Prop := tagSignsRow.holds Try.pinned (OpenSpec.ofChange tagSignsWrong)

/-- 'cellarerlaw04.TagMany': WHATEVER THE INPUT: true; the input reads as it did. -/
def tagManySpec : ChangeSpec := { name := "tagMany", fn := fun _ => fun
  | [d1, d2] => { results := [.lit (.bool true)], args := [d1, d2] }
  | _ => none }
def tagManyRow : OpenClaim := { program := "ytffhpgdlnohgjaa", sum := "fc97350d0fe559cbc90839278188fc90cd25ec4bf0f6fe062dfcd3245d0495e9", func := "cellarer/cellarerlaw04.TagMany", spec := "tagMany", apart := false }
def TagManySaid : Prop := tagManyRow.holds Try.pinned (OpenSpec.ofChange tagManySpec)

/-- ITS FALSE NEIGHBOUR: 'it returns false'. Refute it at one input. -/
def tagManyWrong : ChangeSpec := { name := "tagMany", fn := fun _ => fun
  | [d1, d2] => { results := [.lit (.bool false)], args := [d1, d2] }
  | _ => none }
def TagManyWrongFalsely : Prop := tagManyRow.holds Try.pinned (OpenSpec.ofChange tagManyWrong)

/-- 'cellarerlaw04.TagBit': WHATEVER THE INPUT: true; the input reads as it did. -/
def tagBitSpec : ChangeSpec := { name := "tagBit", fn := fun _ => fun
  | [d1, d2] => { results := [.lit (.bool true)], args := [d1, d2] }
  | _ => none }
def tagBitRow : OpenClaim := { program := "ytffhpgdlnohgjaa", sum := "fc97350d0fe559cbc90839278188fc90cd25ec4bf0f6fe062dfcd3245d0495e9", func := "cellarer/cellarerlaw04.TagBit", spec := "tagBit", apart := false }
def TagBitSaid : Prop := tagBitRow.holds Try.pinned (OpenSpec.ofChange tagBitSpec)

/-- ITS FALSE NEIGHBOUR: 'it returns false'. Refute it at one input. -/
def tagBitWrong : ChangeSpec := { name := "tagBit", fn := fun _ => fun
  | [d1, d2] => { results := [.lit (.bool false)], args := [d1, d2] }
  | _ => none }
def TagBitWrongFalsely : Prop := tagBitRow.holds Try.pinned (OpenSpec.ofChange tagBitWrong)

/- THE SECOND FORM. 'bulk': how many values and letters a reading holds, each counted each time it is reached (what is shared counts as often as it is met; a slice's spare places count too). A statement '..UptoSaid' is the law's where the arguments, and the package variables that the reading takes, are together of bulk at most 1048576: NARROWER than '..Said'. Prove '..Said' where nothing that the law and all that it calls make is longer than what came in: it says more and counts as full. Else prove '..UptoSaid'. A law counts once. -/
mutual
def uptoBulk {H : Type} : DataW H → Nat
  | .lit (.string bytes) => bytes.length + 1
  | .lit _ => 1
  | .nil => 1
  | .ptr d => uptoBulk d + 1
  | .slice elems spare => uptoBulkAll elems + uptoBulkAll spare + 1
  | .agg parts => uptoBulkAll parts + 1
  | .iface _ d => uptoBulk d + 1
  | .map entries => uptoBulkEntries entries + 1
  | .held _ => 1
def uptoBulkAll {H : Type} : List (DataW H) → Nat
  | [] => 0
  | d :: r => uptoBulk d + uptoBulkAll r
def uptoBulkEntries {H : Type} : List (Lit × DataW H) → Nat
  | [] => 0
  | x :: r => uptoBulkEntry x + uptoBulkEntries r
def uptoBulkEntry {H : Type} : Lit × DataW H → Nat
  | (.string bytes, d) => bytes.length + uptoBulk d + 1
  | (_, d) => uptoBulk d + 1
 end
def uptoSmall : (H : Type) → List (DataW H) → Bool := fun _ ds => decide (uptoBulkAll ds ≤ 1048576)
def OpenSpec.upto (s : _root_.Go.ChangeSpec) : _root_.Go.OpenSpec := { _root_.Go.OpenSpec.ofChange s with cond := some uptoSmall }

/-- 'cellarerlaw04.TagOfs', WHERE WHAT IT READS IS OF BULK AT MOST 1048576: true; the input reads as it did. -/
def tagOfsUptoRow : OpenClaim := { program := "ytffhpgdlnohgjaa", sum := "fc97350d0fe559cbc90839278188fc90cd25ec4bf0f6fe062dfcd3245d0495e9", func := "cellarer/cellarerlaw04.TagOfs", spec := "tagOfs", apart := false, narrowed := true }
def TagOfsUptoSaid : Prop := tagOfsUptoRow.holds Try.pinned (OpenSpec.upto tagOfsSpec)

/-- 'cellarerlaw04.TagTexts', WHERE WHAT IT READS IS OF BULK AT MOST 1048576: true; the input reads as it did. -/
def tagTextsUptoRow : OpenClaim := { program := "ytffhpgdlnohgjaa", sum := "fc97350d0fe559cbc90839278188fc90cd25ec4bf0f6fe062dfcd3245d0495e9", func := "cellarer/cellarerlaw04.TagTexts", spec := "tagTexts", apart := false, narrowed := true }
def TagTextsUptoSaid : Prop := tagTextsUptoRow.holds Try.pinned (OpenSpec.upto tagTextsSpec)

/-- 'cellarerlaw04.TagCuts', WHERE WHAT IT READS IS OF BULK AT MOST 1048576: true; the input reads as it did. -/
def tagCutsUptoRow : OpenClaim := { program := "ytffhpgdlnohgjaa", sum := "fc97350d0fe559cbc90839278188fc90cd25ec4bf0f6fe062dfcd3245d0495e9", func := "cellarer/cellarerlaw04.TagCuts", spec := "tagCuts", apart := false, narrowed := true }
def TagCutsUptoSaid : Prop := tagCutsUptoRow.holds Try.pinned (OpenSpec.upto tagCutsSpec)

/-- 'cellarerlaw04.TagSums', WHERE WHAT IT READS IS OF BULK AT MOST 1048576: true; the input reads as it did. -/
def tagSumsUptoRow : OpenClaim := { program := "ytffhpgdlnohgjaa", sum := "fc97350d0fe559cbc90839278188fc90cd25ec4bf0f6fe062dfcd3245d0495e9", func := "cellarer/cellarerlaw04.TagSums", spec := "tagSums", apart := false, narrowed := true }
def TagSumsUptoSaid : Prop := tagSumsUptoRow.holds Try.pinned (OpenSpec.upto tagSumsSpec)

/-- 'cellarerlaw04.TagSigns', WHERE WHAT IT READS IS OF BULK AT MOST 1048576: true; the input reads as it did. -/
def tagSignsUptoRow : OpenClaim := { program := "ytffhpgdlnohgjaa", sum := "fc97350d0fe559cbc90839278188fc90cd25ec4bf0f6fe062dfcd3245d0495e9", func := "cellarer/cellarerlaw04.TagSigns", spec := "tagSigns", apart := false, narrowed := true }
def TagSignsUptoSaid : Prop := tagSignsUptoRow.holds Try.pinned (OpenSpec.upto tagSignsSpec)

/-- 'cellarerlaw04.TagMany', WHERE WHAT IT READS IS OF BULK AT MOST 1048576: true; the input reads as it did. -/
def tagManyUptoRow : OpenClaim := { program := "ytffhpgdlnohgjaa", sum := "fc97350d0fe559cbc90839278188fc90cd25ec4bf0f6fe062dfcd3245d0495e9", func := "cellarer/cellarerlaw04.TagMany", spec := "tagMany", apart := false, narrowed := true }
def TagManyUptoSaid : Prop := tagManyUptoRow.holds Try.pinned (OpenSpec.upto tagManySpec)

/-- 'cellarerlaw04.TagBit', WHERE WHAT IT READS IS OF BULK AT MOST 1048576: true; the input reads as it did. -/
def tagBitUptoRow : OpenClaim := { program := "ytffhpgdlnohgjaa", sum := "fc97350d0fe559cbc90839278188fc90cd25ec4bf0f6fe062dfcd3245d0495e9", func := "cellarer/cellarerlaw04.TagBit", spec := "tagBit", apart := false, narrowed := true }
def TagBitUptoSaid : Prop := tagBitUptoRow.holds Try.pinned (OpenSpec.upto tagBitSpec)

end Rows
end Go.Proofs.Ytffhpgdlnohgjaa

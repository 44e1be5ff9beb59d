/-
  NARROWER THAN 'FOR EVERY INPUT', by the rows' own cells (each row's printed sentence says how): SchemaEvents: laid · SchemaRound: laid · SchemaNames: laid.
  DERIVED. THE GIVEN ROWS OF THIS SEAT. 3 by the template 'for every input the law returns true; each argument reads behind the call as it read before'; 0 by the template 'total and deterministic' (their statements: YtpcmhbafcgineaaDoorTotals.lean).
  GIVEN WITH THE SEED: the statements are not yours to turn. If you find one false, say at which input.
  Laid BY PROGRAM, IN A SANDBOX (cutbox-rows.mjs): the forced cells as the released guide's own fill.sh prints them over the translation 19d5158beca904ef… (all of the seat's roots in one cut). By AI agents, Wed Nov 11 2026. No macro, syntax, notation, axiom, sorry.
-/
import Derived.Test.YtpcmhbafcgineaaDoorChecked
import GoSem.PinnedTables
import GoSem.Claim
import GoSem.ClaimJoined
import GoSem.ClaimMapViews
import Derived.JoinedTies
import Derived.KernelRfl
namespace Go.Proofs.YtpcmhbafcgineaaDoor
/- THE CELL 'sum', in the pinned program and in every row, IS THE sha256 OF THE DUMP (.gsa) THAT YtpcmhbafcgineaaDoorProg.lean LOADS. Nothing in Lean hashes anything: it is a label: what it is worth is what the hold of that sum in a sandbox is worth. -/
noncomputable def Tryd.pinned : Pinned := { name := "ytpcmhbafcgineaadoor", sum := "19d5158beca904efeec605aeaea7f2405da25d49415bd5b4528f4a27109ca8db", checked := Tryd.checked }
namespace Rows
def none {H : Type} : Left H := { results := [], args := [] }

/- WHAT THE LISTED PACKAGE-LEVEL VARIABLES READ AS WHEN THE CALL BEGINS. Each datum BY PROGRAM (the guide's laid-datum.mjs) off the statement by which the dump's own 'gosem.cut.vars' lays the variable. In a bare row this is a premise. The card (YtpcmhbafcgineaaDoorCards.lean) ties it to the program's text. -/
def laid_refrain_schema_reserved {H : Type} : DataW H := .agg [.lit (.string [80, 65, 84, 84, 69, 82, 78]), .lit (.string [83, 69, 81]), .lit (.string [80, 65, 82, 84, 73, 84, 73, 79, 78]), .lit (.string [66, 89]), .lit (.string [87, 72, 69, 82, 69]), .lit (.string [87, 73, 84, 72, 73, 78]), .lit (.string [82, 69, 84, 85, 82, 78]), .lit (.string [65, 78, 68]), .lit (.string [79, 82]), .lit (.string [78, 79, 84]), .lit (.string [84, 82, 85, 69]), .lit (.string [70, 65, 76, 83, 69]), .lit (.string [84, 89, 80, 69]), .lit (.string [73, 78, 84]), .lit (.string [83, 84, 82]), .lit (.string [66, 79, 79, 76])]
def laid_refrain_schema_kindWords {H : Type} : DataW H := .agg [.lit (.string []), .lit (.string [73, 78, 84]), .lit (.string [83, 84, 82]), .lit (.string [66, 79, 79, 76])]
def laid_unicode_utf8_acceptRanges {H : Type} : DataW H := .agg [.agg [.lit (.int .u8 128), .lit (.int .u8 191)], .agg [.lit (.int .u8 160), .lit (.int .u8 191)], .agg [.lit (.int .u8 128), .lit (.int .u8 159)], .agg [.lit (.int .u8 144), .lit (.int .u8 191)], .agg [.lit (.int .u8 128), .lit (.int .u8 143)], .agg [.lit (.int .u8 0), .lit (.int .u8 0)], .agg [.lit (.int .u8 0), .lit (.int .u8 0)], .agg [.lit (.int .u8 0), .lit (.int .u8 0)], .agg [.lit (.int .u8 0), .lit (.int .u8 0)], .agg [.lit (.int .u8 0), .lit (.int .u8 0)], .agg [.lit (.int .u8 0), .lit (.int .u8 0)], .agg [.lit (.int .u8 0), .lit (.int .u8 0)], .agg [.lit (.int .u8 0), .lit (.int .u8 0)], .agg [.lit (.int .u8 0), .lit (.int .u8 0)], .agg [.lit (.int .u8 0), .lit (.int .u8 0)], .agg [.lit (.int .u8 0), .lit (.int .u8 0)]]
/-- One of Go's own tables, pinned by name: the form's constant. -/
def laid_unicode_utf8_first : DataW Unit := Go.Pinned.utf8First

/-- 'refrainlaw2.SchemaEvents': WHATEVER THE INPUT: true; the input reads as it did. -/
def schemaEventsSpec : ChangeSpec := { name := "schemaEvents", fn := fun _ => fun
  | [d1, d2, d3, d4, d5, d6] => { results := [.lit (.bool true)], args := [d1, d2, d3, d4, d5, d6] }
  | _ => none }
def schemaEventsRow : OpenClaim := { program := "ytpcmhbafcgineaadoor", sum := "19d5158beca904efeec605aeaea7f2405da25d49415bd5b4528f4a27109ca8db", func := "refrain/refrainlaw2.SchemaEvents", spec := "schemaEvents", unfollowed := true, recurses := true, named := ["refrain/schema.reserved", "refrain/schema.kindWords"], apart := false, laid := [("refrain/schema.reserved", laid_refrain_schema_reserved), ("refrain/schema.kindWords", laid_refrain_schema_kindWords)] }
def SchemaEventsSaid : Prop := schemaEventsRow.holds Tryd.pinned (OpenSpec.ofChange schemaEventsSpec)

/-- ITS FALSE NEIGHBOUR: 'it returns false'. Refute it at one input. -/
def schemaEventsWrong : ChangeSpec := { name := "schemaEvents", fn := fun _ => fun
  | [d1, d2, d3, d4, d5, d6] => { results := [.lit (.bool false)], args := [d1, d2, d3, d4, d5, d6] }
  | _ => none }
def SchemaEventsWrongFalsely : Prop := schemaEventsRow.holds Tryd.pinned (OpenSpec.ofChange schemaEventsWrong)

/-- 'refrainlaw2.SchemaRound': WHATEVER THE INPUT: true; the input reads as it did. -/
def schemaRoundSpec : ChangeSpec := { name := "schemaRound", fn := fun _ => fun
  | [d1, d2, d3, d4] => { results := [.lit (.bool true)], args := [d1, d2, d3, d4] }
  | _ => none }
def schemaRoundRow : OpenClaim := { program := "ytpcmhbafcgineaadoor", sum := "19d5158beca904efeec605aeaea7f2405da25d49415bd5b4528f4a27109ca8db", func := "refrain/refrainlaw2.SchemaRound", spec := "schemaRound", inPlace := ["internal/abi.NoEscape", "internal/bytealg.MakeNoZero", "internal/bytealg.IndexByteString", "internal/bytealg.IndexString"], unfollowed := true, recurses := true, named := ["refrain/schema.reserved", "refrain/schema.kindWords", "unicode/utf8.first", "unicode/utf8.acceptRanges", "internal/bytealg.MaxLen"], apart := false, laid := [("unicode/utf8.acceptRanges", laid_unicode_utf8_acceptRanges), ("refrain/schema.reserved", laid_refrain_schema_reserved), ("refrain/schema.kindWords", laid_refrain_schema_kindWords), ("unicode/utf8.first", laid_unicode_utf8_first)] }
def SchemaRoundSaid : Prop := schemaRoundRow.holds Tryd.pinned (OpenSpec.ofChange schemaRoundSpec)

/-- ITS FALSE NEIGHBOUR: 'it returns false'. Refute it at one input. -/
def schemaRoundWrong : ChangeSpec := { name := "schemaRound", fn := fun _ => fun
  | [d1, d2, d3, d4] => { results := [.lit (.bool false)], args := [d1, d2, d3, d4] }
  | _ => none }
def SchemaRoundWrongFalsely : Prop := schemaRoundRow.holds Tryd.pinned (OpenSpec.ofChange schemaRoundWrong)

/-- 'refrainlaw2.SchemaNames': WHATEVER THE INPUT: true; the input reads as it did. -/
def schemaNamesSpec : ChangeSpec := { name := "schemaNames", fn := fun _ => fun
  | [d] => { results := [.lit (.bool true)], args := [d] }
  | _ => none }
def schemaNamesRow : OpenClaim := { program := "ytpcmhbafcgineaadoor", sum := "19d5158beca904efeec605aeaea7f2405da25d49415bd5b4528f4a27109ca8db", func := "refrain/refrainlaw2.SchemaNames", spec := "schemaNames", inPlace := ["internal/bytealg.abigen_runtime_cmpstring"], unfollowed := true, recurses := true, named := ["refrain/schema.reserved", "refrain/schema.kindWords"], apart := false, laid := [("refrain/schema.reserved", laid_refrain_schema_reserved), ("refrain/schema.kindWords", laid_refrain_schema_kindWords)] }
def SchemaNamesSaid : Prop := schemaNamesRow.holds Tryd.pinned (OpenSpec.ofChange schemaNamesSpec)

/-- ITS FALSE NEIGHBOUR: 'it returns false'. Refute it at one input. -/
def schemaNamesWrong : ChangeSpec := { name := "schemaNames", fn := fun _ => fun
  | [d] => { results := [.lit (.bool false)], args := [d] }
  | _ => none }
def SchemaNamesWrongFalsely : Prop := schemaNamesRow.holds Tryd.pinned (OpenSpec.ofChange schemaNamesWrong)

/- THE SECOND FORM. 'bulk': how many values and letters a reading holds, each counted each time it is reached (what is shared counts as often as it is met; a slice's spare places count too). A statement '..UptoSaid' is the law's where the arguments, and the package variables that the reading takes, are together of bulk at most 1048576: NARROWER than '..Said'. Prove '..Said' where nothing that the law and all that it calls make is longer than what came in: it says more and counts as full. Else prove '..UptoSaid'. A law counts once. -/
mutual
def uptoBulk {H : Type} : DataW H → Nat
  | .lit (.string bytes) => bytes.length + 1
  | .lit _ => 1
  | .nil => 1
  | .ptr d => uptoBulk d + 1
  | .slice elems spare => uptoBulkAll elems + uptoBulkAll spare + 1
  | .agg parts => uptoBulkAll parts + 1
  | .iface _ d => uptoBulk d + 1
  | .map entries => uptoBulkEntries entries + 1
  | .held _ => 1
def uptoBulkAll {H : Type} : List (DataW H) → Nat
  | [] => 0
  | d :: r => uptoBulk d + uptoBulkAll r
def uptoBulkEntries {H : Type} : List (Lit × DataW H) → Nat
  | [] => 0
  | x :: r => uptoBulkEntry x + uptoBulkEntries r
def uptoBulkEntry {H : Type} : Lit × DataW H → Nat
  | (.string bytes, d) => bytes.length + uptoBulk d + 1
  | (_, d) => uptoBulk d + 1
 end
def uptoSmall : (H : Type) → List (DataW H) → Bool := fun _ ds => decide (uptoBulkAll ds ≤ 1048576)
def OpenSpec.upto (s : _root_.Go.ChangeSpec) : _root_.Go.OpenSpec := { _root_.Go.OpenSpec.ofChange s with cond := some uptoSmall }

/-- 'refrainlaw2.SchemaEvents', WHERE WHAT IT READS IS OF BULK AT MOST 1048576: true; the input reads as it did. -/
def schemaEventsUptoRow : OpenClaim := { program := "ytpcmhbafcgineaadoor", sum := "19d5158beca904efeec605aeaea7f2405da25d49415bd5b4528f4a27109ca8db", func := "refrain/refrainlaw2.SchemaEvents", spec := "schemaEvents", unfollowed := true, recurses := true, named := ["refrain/schema.reserved", "refrain/schema.kindWords"], apart := false, laid := [("refrain/schema.reserved", laid_refrain_schema_reserved), ("refrain/schema.kindWords", laid_refrain_schema_kindWords)], narrowed := true }
def SchemaEventsUptoSaid : Prop := schemaEventsUptoRow.holds Tryd.pinned (OpenSpec.upto schemaEventsSpec)

/-- 'refrainlaw2.SchemaRound', WHERE WHAT IT READS IS OF BULK AT MOST 1048576: true; the input reads as it did. -/
def schemaRoundUptoRow : OpenClaim := { program := "ytpcmhbafcgineaadoor", sum := "19d5158beca904efeec605aeaea7f2405da25d49415bd5b4528f4a27109ca8db", func := "refrain/refrainlaw2.SchemaRound", spec := "schemaRound", inPlace := ["internal/abi.NoEscape", "internal/bytealg.MakeNoZero", "internal/bytealg.IndexByteString", "internal/bytealg.IndexString"], unfollowed := true, recurses := true, named := ["refrain/schema.reserved", "refrain/schema.kindWords", "unicode/utf8.first", "unicode/utf8.acceptRanges", "internal/bytealg.MaxLen"], apart := false, laid := [("unicode/utf8.acceptRanges", laid_unicode_utf8_acceptRanges), ("refrain/schema.reserved", laid_refrain_schema_reserved), ("refrain/schema.kindWords", laid_refrain_schema_kindWords), ("unicode/utf8.first", laid_unicode_utf8_first)], narrowed := true }
def SchemaRoundUptoSaid : Prop := schemaRoundUptoRow.holds Tryd.pinned (OpenSpec.upto schemaRoundSpec)

/-- 'refrainlaw2.SchemaNames', WHERE WHAT IT READS IS OF BULK AT MOST 1048576: true; the input reads as it did. -/
def schemaNamesUptoRow : OpenClaim := { program := "ytpcmhbafcgineaadoor", sum := "19d5158beca904efeec605aeaea7f2405da25d49415bd5b4528f4a27109ca8db", func := "refrain/refrainlaw2.SchemaNames", spec := "schemaNames", inPlace := ["internal/bytealg.abigen_runtime_cmpstring"], unfollowed := true, recurses := true, named := ["refrain/schema.reserved", "refrain/schema.kindWords"], apart := false, laid := [("refrain/schema.reserved", laid_refrain_schema_reserved), ("refrain/schema.kindWords", laid_refrain_schema_kindWords)], narrowed := true }
def SchemaNamesUptoSaid : Prop := schemaNamesUptoRow.holds Tryd.pinned (OpenSpec.upto schemaNamesSpec)

end Rows
end Go.Proofs.YtpcmhbafcgineaaDoor

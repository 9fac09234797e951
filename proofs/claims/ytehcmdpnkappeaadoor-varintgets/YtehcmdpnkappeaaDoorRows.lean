/-
  NARROWER THAN 'FOR EVERY INPUT', by the rows' own cells (each row's printed sentence says how): VarintPuts: laid · VarintGets: laid · VarintBack: laid · VarintOrder: laid · VarintRows: laid · VarintCuts: laid · VarintSizes: laid · VarintLess: laid.
  DERIVED. THE GIVEN ROWS OF THIS SEAT. 8 by the template 'for every input the law returns true; each argument reads behind the call as it read before'; 0 by the template 'total and deterministic' (their statements: YtehcmdpnkappeaaDoorTotals.lean).
  GIVEN WITH THE SEED: the statements are not yours to turn. If you find one false, say at which input.
  Laid BY PROGRAM, IN A SANDBOX (cutbox-rows.mjs): the forced cells as the released guide's own fill.sh prints them over the translation 8072265093e3290a… (all of the seat's roots in one cut). By AI agents, Wed Nov 11 2026. No macro, syntax, notation, axiom, sorry.
-/
import Derived.Test.YtehcmdpnkappeaaDoorChecked
import GoSem.Claim
import GoSem.ClaimJoined
import GoSem.ClaimMapViews
import Derived.JoinedTies
import Derived.KernelRfl
namespace Go.Proofs.YtehcmdpnkappeaaDoor
/- THE CELL 'sum', in the pinned program and in every row, IS THE sha256 OF THE DUMP (.gsa) THAT YtehcmdpnkappeaaDoorProg.lean LOADS. Nothing in Lean hashes anything: it is a label: what it is worth is what the hold of that sum in a sandbox is worth. -/
noncomputable def Tryd.pinned : Pinned := { name := "ytehcmdpnkappeaadoor", sum := "8072265093e3290ac7513bbbb4b6b960ebe89a8e003e618cd9a2c939bd10b548", checked := Tryd.checked }
namespace Rows
def none {H : Type} : Left H := { results := [], args := [] }

/- WHAT THE LISTED PACKAGE-LEVEL VARIABLES READ AS WHEN THE CALL BEGINS. Each datum BY PROGRAM (the guide's laid-datum.mjs) off the statement by which the dump's own 'gosem.cut.vars' lays the variable. In a bare row this is a premise. The card (YtehcmdpnkappeaaDoorCards.lean) ties it to the program's text. -/
def laid_rivulet_varint_widths {H : Type} : DataW H := .agg [.agg [.lit (.int .u8 0), .lit (.int .u64 0), .lit (.int .u64 240)], .agg [.lit (.int .u8 241), .lit (.int .u64 240), .lit (.int .u64 2287)], .agg [.lit (.int .u8 249), .lit (.int .u64 2288), .lit (.int .u64 67823)], .agg [.lit (.int .u8 250), .lit (.int .u64 0), .lit (.int .u64 16777215)], .agg [.lit (.int .u8 251), .lit (.int .u64 0), .lit (.int .u64 4294967295)], .agg [.lit (.int .u8 252), .lit (.int .u64 0), .lit (.int .u64 1099511627775)], .agg [.lit (.int .u8 253), .lit (.int .u64 0), .lit (.int .u64 281474976710655)], .agg [.lit (.int .u8 254), .lit (.int .u64 0), .lit (.int .u64 72057594037927935)], .agg [.lit (.int .u8 255), .lit (.int .u64 0), .lit (.int .u64 18446744073709551615)]]

/-- 'rivuletlaw01.VarintPuts': WHATEVER THE INPUT: true; the input reads as it did. -/
def varintPutsSpec : ChangeSpec := { name := "varintPuts", fn := fun _ => fun
  | [d1, d2, d3] => { results := [.lit (.bool true)], args := [d1, d2, d3] }
  | _ => none }
def varintPutsRow : OpenClaim := { program := "ytehcmdpnkappeaadoor", sum := "8072265093e3290ac7513bbbb4b6b960ebe89a8e003e618cd9a2c939bd10b548", func := "rivulet/rivuletlaw01.VarintPuts", spec := "varintPuts", recurses := true, named := ["rivulet/varint.widths"], apart := false, laid := [("rivulet/varint.widths", laid_rivulet_varint_widths)] }
def VarintPutsSaid : Prop := varintPutsRow.holds Tryd.pinned (OpenSpec.ofChange varintPutsSpec)

/-- ITS FALSE NEIGHBOUR: 'it returns false'. Refute it at one input. -/
def varintPutsWrong : ChangeSpec := { name := "varintPuts", fn := fun _ => fun
  | [d1, d2, d3] => { results := [.lit (.bool false)], args := [d1, d2, d3] }
  | _ => none }
def VarintPutsWrongFalsely : Prop := varintPutsRow.holds Tryd.pinned (OpenSpec.ofChange varintPutsWrong)

/-- 'rivuletlaw01.VarintGets': WHATEVER THE INPUT: true; the input reads as it did. -/
def varintGetsSpec : ChangeSpec := { name := "varintGets", fn := fun _ => fun
  | [d1, d2] => { results := [.lit (.bool true)], args := [d1, d2] }
  | _ => none }
def varintGetsRow : OpenClaim := { program := "ytehcmdpnkappeaadoor", sum := "8072265093e3290ac7513bbbb4b6b960ebe89a8e003e618cd9a2c939bd10b548", func := "rivulet/rivuletlaw01.VarintGets", spec := "varintGets", recurses := true, named := ["rivulet/varint.widths"], apart := false, laid := [("rivulet/varint.widths", laid_rivulet_varint_widths)] }
def VarintGetsSaid : Prop := varintGetsRow.holds Tryd.pinned (OpenSpec.ofChange varintGetsSpec)

/-- ITS FALSE NEIGHBOUR: 'it returns false'. Refute it at one input. -/
def varintGetsWrong : ChangeSpec := { name := "varintGets", fn := fun _ => fun
  | [d1, d2] => { results := [.lit (.bool false)], args := [d1, d2] }
  | _ => none }
def VarintGetsWrongFalsely : Prop := varintGetsRow.holds Tryd.pinned (OpenSpec.ofChange varintGetsWrong)

/-- 'rivuletlaw01.VarintBack': WHATEVER THE INPUT: true; the input reads as it did. -/
def varintBackSpec : ChangeSpec := { name := "varintBack", fn := fun _ => fun
  | [d1, d2, d3] => { results := [.lit (.bool true)], args := [d1, d2, d3] }
  | _ => none }
def varintBackRow : OpenClaim := { program := "ytehcmdpnkappeaadoor", sum := "8072265093e3290ac7513bbbb4b6b960ebe89a8e003e618cd9a2c939bd10b548", func := "rivulet/rivuletlaw01.VarintBack", spec := "varintBack", named := ["rivulet/varint.widths"], apart := false, laid := [("rivulet/varint.widths", laid_rivulet_varint_widths)] }
def VarintBackSaid : Prop := varintBackRow.holds Tryd.pinned (OpenSpec.ofChange varintBackSpec)

/-- ITS FALSE NEIGHBOUR: 'it returns false'. Refute it at one input. -/
def varintBackWrong : ChangeSpec := { name := "varintBack", fn := fun _ => fun
  | [d1, d2, d3] => { results := [.lit (.bool false)], args := [d1, d2, d3] }
  | _ => none }
def VarintBackWrongFalsely : Prop := varintBackRow.holds Tryd.pinned (OpenSpec.ofChange varintBackWrong)

/-- 'rivuletlaw01.VarintOrder': WHATEVER THE INPUT: true; the input reads as it did. -/
def varintOrderSpec : ChangeSpec := { name := "varintOrder", fn := fun _ => fun
  | [d1, d2] => { results := [.lit (.bool true)], args := [d1, d2] }
  | _ => none }
def varintOrderRow : OpenClaim := { program := "ytehcmdpnkappeaadoor", sum := "8072265093e3290ac7513bbbb4b6b960ebe89a8e003e618cd9a2c939bd10b548", func := "rivulet/rivuletlaw01.VarintOrder", spec := "varintOrder", named := ["rivulet/varint.widths"], apart := false, laid := [("rivulet/varint.widths", laid_rivulet_varint_widths)] }
def VarintOrderSaid : Prop := varintOrderRow.holds Tryd.pinned (OpenSpec.ofChange varintOrderSpec)

/-- ITS FALSE NEIGHBOUR: 'it returns false'. Refute it at one input. -/
def varintOrderWrong : ChangeSpec := { name := "varintOrder", fn := fun _ => fun
  | [d1, d2] => { results := [.lit (.bool false)], args := [d1, d2] }
  | _ => none }
def VarintOrderWrongFalsely : Prop := varintOrderRow.holds Tryd.pinned (OpenSpec.ofChange varintOrderWrong)

/-- 'rivuletlaw01.VarintRows': WHATEVER THE INPUT: true; the input reads as it did. -/
def varintRowsSpec : ChangeSpec := { name := "varintRows", fn := fun _ => fun
  | [d1, d2] => { results := [.lit (.bool true)], args := [d1, d2] }
  | _ => none }
def varintRowsRow : OpenClaim := { program := "ytehcmdpnkappeaadoor", sum := "8072265093e3290ac7513bbbb4b6b960ebe89a8e003e618cd9a2c939bd10b548", func := "rivulet/rivuletlaw01.VarintRows", spec := "varintRows", named := ["rivulet/varint.widths"], apart := false, laid := [("rivulet/varint.widths", laid_rivulet_varint_widths)] }
def VarintRowsSaid : Prop := varintRowsRow.holds Tryd.pinned (OpenSpec.ofChange varintRowsSpec)

/-- ITS FALSE NEIGHBOUR: 'it returns false'. Refute it at one input. -/
def varintRowsWrong : ChangeSpec := { name := "varintRows", fn := fun _ => fun
  | [d1, d2] => { results := [.lit (.bool false)], args := [d1, d2] }
  | _ => none }
def VarintRowsWrongFalsely : Prop := varintRowsRow.holds Tryd.pinned (OpenSpec.ofChange varintRowsWrong)

/-- 'rivuletlaw01.VarintCuts': WHATEVER THE INPUT: true; the input reads as it did. -/
def varintCutsSpec : ChangeSpec := { name := "varintCuts", fn := fun _ => fun
  | [d1, d2, d3] => { results := [.lit (.bool true)], args := [d1, d2, d3] }
  | _ => none }
def varintCutsRow : OpenClaim := { program := "ytehcmdpnkappeaadoor", sum := "8072265093e3290ac7513bbbb4b6b960ebe89a8e003e618cd9a2c939bd10b548", func := "rivulet/rivuletlaw01.VarintCuts", spec := "varintCuts", named := ["rivulet/varint.widths"], apart := false, laid := [("rivulet/varint.widths", laid_rivulet_varint_widths)] }
def VarintCutsSaid : Prop := varintCutsRow.holds Tryd.pinned (OpenSpec.ofChange varintCutsSpec)

/-- ITS FALSE NEIGHBOUR: 'it returns false'. Refute it at one input. -/
def varintCutsWrong : ChangeSpec := { name := "varintCuts", fn := fun _ => fun
  | [d1, d2, d3] => { results := [.lit (.bool false)], args := [d1, d2, d3] }
  | _ => none }
def VarintCutsWrongFalsely : Prop := varintCutsRow.holds Tryd.pinned (OpenSpec.ofChange varintCutsWrong)

/-- 'rivuletlaw01.VarintSizes': WHATEVER THE INPUT: true; the input reads as it did. -/
def varintSizesSpec : ChangeSpec := { name := "varintSizes", fn := fun _ => fun
  | [d] => { results := [.lit (.bool true)], args := [d] }
  | _ => none }
def varintSizesRow : OpenClaim := { program := "ytehcmdpnkappeaadoor", sum := "8072265093e3290ac7513bbbb4b6b960ebe89a8e003e618cd9a2c939bd10b548", func := "rivulet/rivuletlaw01.VarintSizes", spec := "varintSizes", named := ["rivulet/varint.widths"], apart := false, laid := [("rivulet/varint.widths", laid_rivulet_varint_widths)] }
def VarintSizesSaid : Prop := varintSizesRow.holds Tryd.pinned (OpenSpec.ofChange varintSizesSpec)

/-- ITS FALSE NEIGHBOUR: 'it returns false'. Refute it at one input. -/
def varintSizesWrong : ChangeSpec := { name := "varintSizes", fn := fun _ => fun
  | [d] => { results := [.lit (.bool false)], args := [d] }
  | _ => none }
def VarintSizesWrongFalsely : Prop := varintSizesRow.holds Tryd.pinned (OpenSpec.ofChange varintSizesWrong)

/-- 'rivuletlaw01.VarintLess': WHATEVER THE INPUT: true; the input reads as it did. -/
def varintLessSpec : ChangeSpec := { name := "varintLess", fn := fun _ => fun
  | [d1, d2, d3] => { results := [.lit (.bool true)], args := [d1, d2, d3] }
  | _ => none }
def varintLessRow : OpenClaim := { program := "ytehcmdpnkappeaadoor", sum := "8072265093e3290ac7513bbbb4b6b960ebe89a8e003e618cd9a2c939bd10b548", func := "rivulet/rivuletlaw01.VarintLess", spec := "varintLess", named := ["rivulet/varint.widths"], apart := false, laid := [("rivulet/varint.widths", laid_rivulet_varint_widths)] }
def VarintLessSaid : Prop := varintLessRow.holds Tryd.pinned (OpenSpec.ofChange varintLessSpec)

/-- ITS FALSE NEIGHBOUR: 'it returns false'. Refute it at one input. -/
def varintLessWrong : ChangeSpec := { name := "varintLess", fn := fun _ => fun
  | [d1, d2, d3] => { results := [.lit (.bool false)], args := [d1, d2, d3] }
  | _ => none }
def VarintLessWrongFalsely : Prop := varintLessRow.holds Tryd.pinned (OpenSpec.ofChange varintLessWrong)

/- THE SECOND FORM. 'bulk': how many values and letters a reading holds, each counted each time it is reached (what is shared counts as often as it is met; a slice's spare places count too). A statement '..UptoSaid' is the law's where the arguments, and the package variables that the reading takes, are together of bulk at most 1048576: NARROWER than '..Said'. Prove '..Said' where nothing that the law and all that it calls make is longer than what came in: it says more and counts as full. Else prove '..UptoSaid'. A law counts once. -/
mutual
def uptoBulk {H : Type} : DataW H → Nat
  | .lit (.string bytes) => bytes.length + 1
  | .lit _ => 1
  | .nil => 1
  | .ptr d => uptoBulk d + 1
  | .slice elems spare => uptoBulkAll elems + uptoBulkAll spare + 1
  | .agg parts => uptoBulkAll parts + 1
  | .iface _ d => uptoBulk d + 1
  | .map entries => uptoBulkEntries entries + 1
  | .held _ => 1
def uptoBulkAll {H : Type} : List (DataW H) → Nat
  | [] => 0
  | d :: r => uptoBulk d + uptoBulkAll r
def uptoBulkEntries {H : Type} : List (Lit × DataW H) → Nat
  | [] => 0
  | x :: r => uptoBulkEntry x + uptoBulkEntries r
def uptoBulkEntry {H : Type} : Lit × DataW H → Nat
  | (.string bytes, d) => bytes.length + uptoBulk d + 1
  | (_, d) => uptoBulk d + 1
 end
def uptoSmall : (H : Type) → List (DataW H) → Bool := fun _ ds => decide (uptoBulkAll ds ≤ 1048576)
def OpenSpec.upto (s : _root_.Go.ChangeSpec) : _root_.Go.OpenSpec := { _root_.Go.OpenSpec.ofChange s with cond := some uptoSmall }

/-- 'rivuletlaw01.VarintPuts', WHERE WHAT IT READS IS OF BULK AT MOST 1048576: true; the input reads as it did. -/
def varintPutsUptoRow : OpenClaim := { program := "ytehcmdpnkappeaadoor", sum := "8072265093e3290ac7513bbbb4b6b960ebe89a8e003e618cd9a2c939bd10b548", func := "rivulet/rivuletlaw01.VarintPuts", spec := "varintPuts", recurses := true, named := ["rivulet/varint.widths"], apart := false, laid := [("rivulet/varint.widths", laid_rivulet_varint_widths)], narrowed := true }
def VarintPutsUptoSaid : Prop := varintPutsUptoRow.holds Tryd.pinned (OpenSpec.upto varintPutsSpec)

/-- 'rivuletlaw01.VarintGets', WHERE WHAT IT READS IS OF BULK AT MOST 1048576: true; the input reads as it did. -/
def varintGetsUptoRow : OpenClaim := { program := "ytehcmdpnkappeaadoor", sum := "8072265093e3290ac7513bbbb4b6b960ebe89a8e003e618cd9a2c939bd10b548", func := "rivulet/rivuletlaw01.VarintGets", spec := "varintGets", recurses := true, named := ["rivulet/varint.widths"], apart := false, laid := [("rivulet/varint.widths", laid_rivulet_varint_widths)], narrowed := true }
def VarintGetsUptoSaid : Prop := varintGetsUptoRow.holds Tryd.pinned (OpenSpec.upto varintGetsSpec)

/-- 'rivuletlaw01.VarintBack', WHERE WHAT IT READS IS OF BULK AT MOST 1048576: true; the input reads as it did. -/
def varintBackUptoRow : OpenClaim := { program := "ytehcmdpnkappeaadoor", sum := "8072265093e3290ac7513bbbb4b6b960ebe89a8e003e618cd9a2c939bd10b548", func := "rivulet/rivuletlaw01.VarintBack", spec := "varintBack", named := ["rivulet/varint.widths"], apart := false, laid := [("rivulet/varint.widths", laid_rivulet_varint_widths)], narrowed := true }
def VarintBackUptoSaid : Prop := varintBackUptoRow.holds Tryd.pinned (OpenSpec.upto varintBackSpec)

/-- 'rivuletlaw01.VarintOrder', WHERE WHAT IT READS IS OF BULK AT MOST 1048576: true; the input reads as it did. -/
def varintOrderUptoRow : OpenClaim := { program := "ytehcmdpnkappeaadoor", sum := "8072265093e3290ac7513bbbb4b6b960ebe89a8e003e618cd9a2c939bd10b548", func := "rivulet/rivuletlaw01.VarintOrder", spec := "varintOrder", named := ["rivulet/varint.widths"], apart := false, laid := [("rivulet/varint.widths", laid_rivulet_varint_widths)], narrowed := true }
def VarintOrderUptoSaid : Prop := varintOrderUptoRow.holds Tryd.pinned (OpenSpec.upto varintOrderSpec)

/-- 'rivuletlaw01.VarintRows', WHERE WHAT IT READS IS OF BULK AT MOST 1048576: true; the input reads as it did. -/
def varintRowsUptoRow : OpenClaim := { program := "ytehcmdpnkappeaadoor", sum := "8072265093e3290ac7513bbbb4b6b960ebe89a8e003e618cd9a2c939bd10b548", func := "rivulet/rivuletlaw01.VarintRows", spec := "varintRows", named := ["rivulet/varint.widths"], apart := false, laid := [("rivulet/varint.widths", laid_rivulet_varint_widths)], narrowed := true }
def VarintRowsUptoSaid : Prop := varintRowsUptoRow.holds Tryd.pinned (OpenSpec.upto varintRowsSpec)

/-- 'rivuletlaw01.VarintCuts', WHERE WHAT IT READS IS OF BULK AT MOST 1048576: true; the input reads as it did. -/
def varintCutsUptoRow : OpenClaim := { program := "ytehcmdpnkappeaadoor", sum := "8072265093e3290ac7513bbbb4b6b960ebe89a8e003e618cd9a2c939bd10b548", func := "rivulet/rivuletlaw01.VarintCuts", spec := "varintCuts", named := ["rivulet/varint.widths"], apart := false, laid := [("rivulet/varint.widths", laid_rivulet_varint_widths)], narrowed := true }
def VarintCutsUptoSaid : Prop := varintCutsUptoRow.holds Tryd.pinned (OpenSpec.upto varintCutsSpec)

/-- 'rivuletlaw01.VarintSizes', WHERE WHAT IT READS IS OF BULK AT MOST 1048576: true; the input reads as it did. -/
def varintSizesUptoRow : OpenClaim := { program := "ytehcmdpnkappeaadoor", sum := "8072265093e3290ac7513bbbb4b6b960ebe89a8e003e618cd9a2c939bd10b548", func := "rivulet/rivuletlaw01.VarintSizes", spec := "varintSizes", named := ["rivulet/varint.widths"], apart := false, laid := [("rivulet/varint.widths", laid_rivulet_varint_widths)], narrowed := true }
def VarintSizesUptoSaid : Prop := varintSizesUptoRow.holds Tryd.pinned (OpenSpec.upto varintSizesSpec)

/-- 'rivuletlaw01.VarintLess', WHERE WHAT IT READS IS OF BULK AT MOST 1048576: true; the input reads as it did. -/
def varintLessUptoRow : OpenClaim := { program := "ytehcmdpnkappeaadoor", sum := "8072265093e3290ac7513bbbb4b6b960ebe89a8e003e618cd9a2c939bd10b548", func := "rivulet/rivuletlaw01.VarintLess", spec := "varintLess", named := ["rivulet/varint.widths"], apart := false, laid := [("rivulet/varint.widths", laid_rivulet_varint_widths)], narrowed := true }
def VarintLessUptoSaid : Prop := varintLessUptoRow.holds Tryd.pinned (OpenSpec.upto varintLessSpec)

end Rows
end Go.Proofs.YtehcmdpnkappeaaDoor

/-
  NARROWER THAN 'FOR EVERY INPUT', by the rows' own cells (each row's printed sentence says how): FramePuts: laid · FrameBack: laid · FrameBits: laid · FrameShows: laid · FrameCuts: laid · FrameKinds: laid.
  DERIVED. THE GIVEN ROWS OF THIS SEAT. 6 by the template 'for every input the law returns true; each argument reads behind the call as it read before'; 0 by the template 'total and deterministic' (their statements: YtlfmpoinjbmjoaaGreatDoorTotals.lean).
  GIVEN WITH THE SEED: the statements are not yours to turn. If you find one false, say at which input.
  Laid BY PROGRAM, IN A SANDBOX (cutbox-rows.mjs): the forced cells as the released guide's own fill.sh prints them over the translation 6f69d2c5f000a743… (all of the seat's roots in one cut). By AI agents, Wed Nov 11 2026. No macro, syntax, notation, axiom, sorry.
-/
import Derived.Test.YtlfmpoinjbmjoaaGreatDoorChecked
import GoSem.Claim
import GoSem.ClaimJoined
import GoSem.ClaimMapViews
import Derived.JoinedTies
import Derived.KernelRfl
namespace Go.Proofs.YtlfmpoinjbmjoaaGreatDoor
/- THE CELL 'sum', in the pinned program and in every row, IS THE sha256 OF THE DUMP (.gsa) THAT YtlfmpoinjbmjoaaGreatDoorProg.lean LOADS. Nothing in Lean hashes anything: it is a label: what it is worth is what the hold of that sum in a sandbox is worth. -/
noncomputable def Tryz.pinned : Pinned := { name := "ytlfmpoinjbmjoaagreatdoor", sum := "6f69d2c5f000a743bc55ad6296885265ca275ca23e12a55f3a1ca99bcd8f4ff6", checked := Tryz.checked }
namespace Rows
def none {H : Type} : Left H := { results := [], args := [] }

/- WHAT THE LISTED PACKAGE-LEVEL VARIABLES READ AS WHEN THE CALL BEGINS. Each datum BY PROGRAM (the guide's laid-datum.mjs) off the statement by which the dump's own 'gosem.cut.vars' lays the variable. In a bare row this is a premise. The card (YtlfmpoinjbmjoaaGreatDoorCards.lean) ties it to the program's text. -/
def laid_rivulet_varint_widths {H : Type} : DataW H := .agg [.agg [.lit (.int .u8 0), .lit (.int .u64 0), .lit (.int .u64 240)], .agg [.lit (.int .u8 241), .lit (.int .u64 240), .lit (.int .u64 2287)], .agg [.lit (.int .u8 249), .lit (.int .u64 2288), .lit (.int .u64 67823)], .agg [.lit (.int .u8 250), .lit (.int .u64 0), .lit (.int .u64 16777215)], .agg [.lit (.int .u8 251), .lit (.int .u64 0), .lit (.int .u64 4294967295)], .agg [.lit (.int .u8 252), .lit (.int .u64 0), .lit (.int .u64 1099511627775)], .agg [.lit (.int .u8 253), .lit (.int .u64 0), .lit (.int .u64 281474976710655)], .agg [.lit (.int .u8 254), .lit (.int .u64 0), .lit (.int .u64 72057594037927935)], .agg [.lit (.int .u8 255), .lit (.int .u64 0), .lit (.int .u64 18446744073709551615)]]

/-- 'rivuletlaw07.FramePuts': WHATEVER THE INPUT: true; the input reads as it did. -/
def framePutsSpec : ChangeSpec := { name := "framePuts", fn := fun _ => fun
  | [d1, d2, d3] => { results := [.lit (.bool true)], args := [d1, d2, d3] }
  | _ => none }
def framePutsRow : OpenClaim := { program := "ytlfmpoinjbmjoaagreatdoor", sum := "6f69d2c5f000a743bc55ad6296885265ca275ca23e12a55f3a1ca99bcd8f4ff6", func := "rivulet/rivuletlaw07.FramePuts", spec := "framePuts", inPlace := ["internal/abi.NoEscape", "internal/bytealg.MakeNoZero"], unfollowed := true, recurses := true, named := ["rivulet/varint.widths"], apart := false, laid := [("rivulet/varint.widths", laid_rivulet_varint_widths)] }
def FramePutsSaid : Prop := framePutsRow.holds Tryz.pinned (OpenSpec.ofChange framePutsSpec)

/-- ITS FALSE NEIGHBOUR: 'it returns false'. Refute it at one input. -/
def framePutsWrong : ChangeSpec := { name := "framePuts", fn := fun _ => fun
  | [d1, d2, d3] => { results := [.lit (.bool false)], args := [d1, d2, d3] }
  | _ => none }
def FramePutsWrongFalsely : Prop := framePutsRow.holds Tryz.pinned (OpenSpec.ofChange framePutsWrong)

/-- 'rivuletlaw07.FrameBack': WHATEVER THE INPUT: true; the input reads as it did. -/
def frameBackSpec : ChangeSpec := { name := "frameBack", fn := fun _ => fun
  | [d1, d2] => { results := [.lit (.bool true)], args := [d1, d2] }
  | _ => none }
def frameBackRow : OpenClaim := { program := "ytlfmpoinjbmjoaagreatdoor", sum := "6f69d2c5f000a743bc55ad6296885265ca275ca23e12a55f3a1ca99bcd8f4ff6", func := "rivulet/rivuletlaw07.FrameBack", spec := "frameBack", inPlace := ["internal/abi.NoEscape", "internal/bytealg.MakeNoZero"], unfollowed := true, recurses := true, named := ["rivulet/varint.widths"], apart := false, laid := [("rivulet/varint.widths", laid_rivulet_varint_widths)] }
def FrameBackSaid : Prop := frameBackRow.holds Tryz.pinned (OpenSpec.ofChange frameBackSpec)

/-- ITS FALSE NEIGHBOUR: 'it returns false'. Refute it at one input. -/
def frameBackWrong : ChangeSpec := { name := "frameBack", fn := fun _ => fun
  | [d1, d2] => { results := [.lit (.bool false)], args := [d1, d2] }
  | _ => none }
def FrameBackWrongFalsely : Prop := frameBackRow.holds Tryz.pinned (OpenSpec.ofChange frameBackWrong)

/-- 'rivuletlaw07.FrameBits': WHATEVER THE INPUT: true; the input reads as it did. -/
def frameBitsSpec : ChangeSpec := { name := "frameBits", fn := fun _ => fun
  | [d1, d2, d3] => { results := [.lit (.bool true)], args := [d1, d2, d3] }
  | _ => none }
def frameBitsRow : OpenClaim := { program := "ytlfmpoinjbmjoaagreatdoor", sum := "6f69d2c5f000a743bc55ad6296885265ca275ca23e12a55f3a1ca99bcd8f4ff6", func := "rivulet/rivuletlaw07.FrameBits", spec := "frameBits", inPlace := ["internal/abi.NoEscape", "internal/bytealg.MakeNoZero"], unfollowed := true, recurses := true, named := ["rivulet/varint.widths"], apart := false, laid := [("rivulet/varint.widths", laid_rivulet_varint_widths)] }
def FrameBitsSaid : Prop := frameBitsRow.holds Tryz.pinned (OpenSpec.ofChange frameBitsSpec)

/-- ITS FALSE NEIGHBOUR: 'it returns false'. Refute it at one input. -/
def frameBitsWrong : ChangeSpec := { name := "frameBits", fn := fun _ => fun
  | [d1, d2, d3] => { results := [.lit (.bool false)], args := [d1, d2, d3] }
  | _ => none }
def FrameBitsWrongFalsely : Prop := frameBitsRow.holds Tryz.pinned (OpenSpec.ofChange frameBitsWrong)

/-- 'rivuletlaw07.FrameShows': WHATEVER THE INPUT: true; the input reads as it did. -/
def frameShowsSpec : ChangeSpec := { name := "frameShows", fn := fun _ => fun
  | [d1, d2] => { results := [.lit (.bool true)], args := [d1, d2] }
  | _ => none }
def frameShowsRow : OpenClaim := { program := "ytlfmpoinjbmjoaagreatdoor", sum := "6f69d2c5f000a743bc55ad6296885265ca275ca23e12a55f3a1ca99bcd8f4ff6", func := "rivulet/rivuletlaw07.FrameShows", spec := "frameShows", inPlace := ["internal/abi.NoEscape", "internal/bytealg.MakeNoZero"], unfollowed := true, recurses := true, named := ["rivulet/varint.widths"], apart := false, laid := [("rivulet/varint.widths", laid_rivulet_varint_widths)] }
def FrameShowsSaid : Prop := frameShowsRow.holds Tryz.pinned (OpenSpec.ofChange frameShowsSpec)

/-- ITS FALSE NEIGHBOUR: 'it returns false'. Refute it at one input. -/
def frameShowsWrong : ChangeSpec := { name := "frameShows", fn := fun _ => fun
  | [d1, d2] => { results := [.lit (.bool false)], args := [d1, d2] }
  | _ => none }
def FrameShowsWrongFalsely : Prop := frameShowsRow.holds Tryz.pinned (OpenSpec.ofChange frameShowsWrong)

/-- 'rivuletlaw07.FrameCuts': WHATEVER THE INPUT: true; the input reads as it did. -/
def frameCutsSpec : ChangeSpec := { name := "frameCuts", fn := fun _ => fun
  | [d1, d2] => { results := [.lit (.bool true)], args := [d1, d2] }
  | _ => none }
def frameCutsRow : OpenClaim := { program := "ytlfmpoinjbmjoaagreatdoor", sum := "6f69d2c5f000a743bc55ad6296885265ca275ca23e12a55f3a1ca99bcd8f4ff6", func := "rivulet/rivuletlaw07.FrameCuts", spec := "frameCuts", inPlace := ["internal/abi.NoEscape", "internal/bytealg.MakeNoZero"], unfollowed := true, recurses := true, named := ["rivulet/varint.widths"], apart := false, laid := [("rivulet/varint.widths", laid_rivulet_varint_widths)] }
def FrameCutsSaid : Prop := frameCutsRow.holds Tryz.pinned (OpenSpec.ofChange frameCutsSpec)

/-- ITS FALSE NEIGHBOUR: 'it returns false'. Refute it at one input. -/
def frameCutsWrong : ChangeSpec := { name := "frameCuts", fn := fun _ => fun
  | [d1, d2] => { results := [.lit (.bool false)], args := [d1, d2] }
  | _ => none }
def FrameCutsWrongFalsely : Prop := frameCutsRow.holds Tryz.pinned (OpenSpec.ofChange frameCutsWrong)

/-- 'rivuletlaw07.FrameKinds': WHATEVER THE INPUT: true; the input reads as it did. -/
def frameKindsSpec : ChangeSpec := { name := "frameKinds", fn := fun _ => fun
  | [d] => { results := [.lit (.bool true)], args := [d] }
  | _ => none }
def frameKindsRow : OpenClaim := { program := "ytlfmpoinjbmjoaagreatdoor", sum := "6f69d2c5f000a743bc55ad6296885265ca275ca23e12a55f3a1ca99bcd8f4ff6", func := "rivulet/rivuletlaw07.FrameKinds", spec := "frameKinds", inPlace := ["internal/abi.NoEscape", "internal/bytealg.MakeNoZero"], unfollowed := true, recurses := true, named := ["rivulet/varint.widths"], apart := false, laid := [("rivulet/varint.widths", laid_rivulet_varint_widths)] }
def FrameKindsSaid : Prop := frameKindsRow.holds Tryz.pinned (OpenSpec.ofChange frameKindsSpec)

/-- ITS FALSE NEIGHBOUR: 'it returns false'. Refute it at one input. -/
def frameKindsWrong : ChangeSpec := { name := "frameKinds", fn := fun _ => fun
  | [d] => { results := [.lit (.bool false)], args := [d] }
  | _ => none }
def FrameKindsWrongFalsely : Prop := frameKindsRow.holds Tryz.pinned (OpenSpec.ofChange frameKindsWrong)

/- THE SECOND FORM. 'bulk': how many values and letters a reading holds, each counted each time it is reached (what is shared counts as often as it is met; a slice's spare places count too). A statement '..UptoSaid' is the law's where the arguments, and the package variables that the reading takes, are together of bulk at most 1048576: NARROWER than '..Said'. Prove '..Said' where nothing that the law and all that it calls make is longer than what came in: it says more and counts as full. Else prove '..UptoSaid'. A law counts once. -/
mutual
def uptoBulk {H : Type} : DataW H → Nat
  | .lit (.string bytes) => bytes.length + 1
  | .lit _ => 1
  | .nil => 1
  | .ptr d => uptoBulk d + 1
  | .slice elems spare => uptoBulkAll elems + uptoBulkAll spare + 1
  | .agg parts => uptoBulkAll parts + 1
  | .iface _ d => uptoBulk d + 1
  | .map entries => uptoBulkEntries entries + 1
  | .held _ => 1
def uptoBulkAll {H : Type} : List (DataW H) → Nat
  | [] => 0
  | d :: r => uptoBulk d + uptoBulkAll r
def uptoBulkEntries {H : Type} : List (Lit × DataW H) → Nat
  | [] => 0
  | x :: r => uptoBulkEntry x + uptoBulkEntries r
def uptoBulkEntry {H : Type} : Lit × DataW H → Nat
  | (.string bytes, d) => bytes.length + uptoBulk d + 1
  | (_, d) => uptoBulk d + 1
 end
def uptoSmall : (H : Type) → List (DataW H) → Bool := fun _ ds => decide (uptoBulkAll ds ≤ 1048576)
def OpenSpec.upto (s : _root_.Go.ChangeSpec) : _root_.Go.OpenSpec := { _root_.Go.OpenSpec.ofChange s with cond := some uptoSmall }

/-- 'rivuletlaw07.FramePuts', WHERE WHAT IT READS IS OF BULK AT MOST 1048576: true; the input reads as it did. -/
def framePutsUptoRow : OpenClaim := { program := "ytlfmpoinjbmjoaagreatdoor", sum := "6f69d2c5f000a743bc55ad6296885265ca275ca23e12a55f3a1ca99bcd8f4ff6", func := "rivulet/rivuletlaw07.FramePuts", spec := "framePuts", inPlace := ["internal/abi.NoEscape", "internal/bytealg.MakeNoZero"], unfollowed := true, recurses := true, named := ["rivulet/varint.widths"], apart := false, laid := [("rivulet/varint.widths", laid_rivulet_varint_widths)], narrowed := true }
def FramePutsUptoSaid : Prop := framePutsUptoRow.holds Tryz.pinned (OpenSpec.upto framePutsSpec)

/-- 'rivuletlaw07.FrameBack', WHERE WHAT IT READS IS OF BULK AT MOST 1048576: true; the input reads as it did. -/
def frameBackUptoRow : OpenClaim := { program := "ytlfmpoinjbmjoaagreatdoor", sum := "6f69d2c5f000a743bc55ad6296885265ca275ca23e12a55f3a1ca99bcd8f4ff6", func := "rivulet/rivuletlaw07.FrameBack", spec := "frameBack", inPlace := ["internal/abi.NoEscape", "internal/bytealg.MakeNoZero"], unfollowed := true, recurses := true, named := ["rivulet/varint.widths"], apart := false, laid := [("rivulet/varint.widths", laid_rivulet_varint_widths)], narrowed := true }
def FrameBackUptoSaid : Prop := frameBackUptoRow.holds Tryz.pinned (OpenSpec.upto frameBackSpec)

/-- 'rivuletlaw07.FrameBits', WHERE WHAT IT READS IS OF BULK AT MOST 1048576: true; the input reads as it did. -/
def frameBitsUptoRow : OpenClaim := { program := "ytlfmpoinjbmjoaagreatdoor", sum := "6f69d2c5f000a743bc55ad6296885265ca275ca23e12a55f3a1ca99bcd8f4ff6", func := "rivulet/rivuletlaw07.FrameBits", spec := "frameBits", inPlace := ["internal/abi.NoEscape", "internal/bytealg.MakeNoZero"], unfollowed := true, recurses := true, named := ["rivulet/varint.widths"], apart := false, laid := [("rivulet/varint.widths", laid_rivulet_varint_widths)], narrowed := true }
def FrameBitsUptoSaid : Prop := frameBitsUptoRow.holds Tryz.pinned (OpenSpec.upto frameBitsSpec)

/-- 'rivuletlaw07.FrameShows', WHERE WHAT IT READS IS OF BULK AT MOST 1048576: true; the input reads as it did. -/
def frameShowsUptoRow : OpenClaim := { program := "ytlfmpoinjbmjoaagreatdoor", sum := "6f69d2c5f000a743bc55ad6296885265ca275ca23e12a55f3a1ca99bcd8f4ff6", func := "rivulet/rivuletlaw07.FrameShows", spec := "frameShows", inPlace := ["internal/abi.NoEscape", "internal/bytealg.MakeNoZero"], unfollowed := true, recurses := true, named := ["rivulet/varint.widths"], apart := false, laid := [("rivulet/varint.widths", laid_rivulet_varint_widths)], narrowed := true }
def FrameShowsUptoSaid : Prop := frameShowsUptoRow.holds Tryz.pinned (OpenSpec.upto frameShowsSpec)

/-- 'rivuletlaw07.FrameCuts', WHERE WHAT IT READS IS OF BULK AT MOST 1048576: true; the input reads as it did. -/
def frameCutsUptoRow : OpenClaim := { program := "ytlfmpoinjbmjoaagreatdoor", sum := "6f69d2c5f000a743bc55ad6296885265ca275ca23e12a55f3a1ca99bcd8f4ff6", func := "rivulet/rivuletlaw07.FrameCuts", spec := "frameCuts", inPlace := ["internal/abi.NoEscape", "internal/bytealg.MakeNoZero"], unfollowed := true, recurses := true, named := ["rivulet/varint.widths"], apart := false, laid := [("rivulet/varint.widths", laid_rivulet_varint_widths)], narrowed := true }
def FrameCutsUptoSaid : Prop := frameCutsUptoRow.holds Tryz.pinned (OpenSpec.upto frameCutsSpec)

/-- 'rivuletlaw07.FrameKinds', WHERE WHAT IT READS IS OF BULK AT MOST 1048576: true; the input reads as it did. -/
def frameKindsUptoRow : OpenClaim := { program := "ytlfmpoinjbmjoaagreatdoor", sum := "6f69d2c5f000a743bc55ad6296885265ca275ca23e12a55f3a1ca99bcd8f4ff6", func := "rivulet/rivuletlaw07.FrameKinds", spec := "frameKinds", inPlace := ["internal/abi.NoEscape", "internal/bytealg.MakeNoZero"], unfollowed := true, recurses := true, named := ["rivulet/varint.widths"], apart := false, laid := [("rivulet/varint.widths", laid_rivulet_varint_widths)], narrowed := true }
def FrameKindsUptoSaid : Prop := frameKindsUptoRow.holds Tryz.pinned (OpenSpec.upto frameKindsSpec)

end Rows
end Go.Proofs.YtlfmpoinjbmjoaaGreatDoor

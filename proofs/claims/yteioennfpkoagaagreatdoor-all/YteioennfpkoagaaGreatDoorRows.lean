/-
  NARROWER THAN 'FOR EVERY INPUT', by the rows' own cells (each row's printed sentence says how): Texts: laid · All: laid · Printed: laid · Loaded: laid · Damaged: laid · Apart: laid · Windows: laid · Fails: laid · Queued: laid.
  DERIVED. THE GIVEN ROWS OF THIS SEAT. 9 by the template 'for every input the law returns true; each argument reads behind the call as it read before'; 0 by the template 'total and deterministic' (their statements: YteioennfpkoagaaGreatDoorTotals.lean).
  GIVEN WITH THE SEED: the statements are not yours to turn. If you find one false, say at which input.
  Laid BY PROGRAM, IN A SANDBOX (cutbox-rows.mjs): the forced cells as the released guide's own fill.sh prints them over the translation 5665f5c0b8a34063… (all of the seat's roots in one cut). By AI agents, Wed Nov 11 2026. No macro, syntax, notation, axiom, sorry.
-/
import Derived.Test.YteioennfpkoagaaGreatDoorChecked
import GoSem.Claim
import GoSem.ClaimJoined
import GoSem.ClaimMapViews
import Derived.JoinedTies
import Derived.KernelRfl
namespace Go.Proofs.YteioennfpkoagaaGreatDoor
/- THE CELL 'sum', in the pinned program and in every row, IS THE sha256 OF THE DUMP (.gsa) THAT YteioennfpkoagaaGreatDoorProg.lean LOADS. Nothing in Lean hashes anything: it is a label: what it is worth is what the hold of that sum in a sandbox is worth. -/
noncomputable def Tryz.pinned : Pinned := { name := "yteioennfpkoagaagreatdoor", sum := "5665f5c0b8a34063fc29277c00a23c40f31fcec5ac0ccbaa6d7700a91aacb1bb", checked := Tryz.checked }
namespace Rows
def none {H : Type} : Left H := { results := [], args := [] }

/- WHAT THE LISTED PACKAGE-LEVEL VARIABLES READ AS WHEN THE CALL BEGINS. Each datum BY PROGRAM (the guide's laid-datum.mjs) off the statement by which the dump's own 'gosem.cut.vars' lays the variable. In a bare row this is a premise. The card (YteioennfpkoagaaGreatDoorCards.lean) ties it to the program's text. -/
def laid_math_bits_deBruijn32tab {H : Type} : DataW H := .agg [.lit (.int .u8 0), .lit (.int .u8 1), .lit (.int .u8 28), .lit (.int .u8 2), .lit (.int .u8 29), .lit (.int .u8 14), .lit (.int .u8 24), .lit (.int .u8 3), .lit (.int .u8 30), .lit (.int .u8 22), .lit (.int .u8 20), .lit (.int .u8 15), .lit (.int .u8 25), .lit (.int .u8 17), .lit (.int .u8 4), .lit (.int .u8 8), .lit (.int .u8 31), .lit (.int .u8 27), .lit (.int .u8 13), .lit (.int .u8 23), .lit (.int .u8 21), .lit (.int .u8 19), .lit (.int .u8 16), .lit (.int .u8 7), .lit (.int .u8 26), .lit (.int .u8 12), .lit (.int .u8 18), .lit (.int .u8 6), .lit (.int .u8 11), .lit (.int .u8 5), .lit (.int .u8 10), .lit (.int .u8 9)]
def laid_math_bits_deBruijn64tab {H : Type} : DataW H := .agg [.lit (.int .u8 0), .lit (.int .u8 1), .lit (.int .u8 56), .lit (.int .u8 2), .lit (.int .u8 57), .lit (.int .u8 49), .lit (.int .u8 28), .lit (.int .u8 3), .lit (.int .u8 61), .lit (.int .u8 58), .lit (.int .u8 42), .lit (.int .u8 50), .lit (.int .u8 38), .lit (.int .u8 29), .lit (.int .u8 17), .lit (.int .u8 4), .lit (.int .u8 62), .lit (.int .u8 47), .lit (.int .u8 59), .lit (.int .u8 36), .lit (.int .u8 45), .lit (.int .u8 43), .lit (.int .u8 51), .lit (.int .u8 22), .lit (.int .u8 53), .lit (.int .u8 39), .lit (.int .u8 33), .lit (.int .u8 30), .lit (.int .u8 24), .lit (.int .u8 18), .lit (.int .u8 12), .lit (.int .u8 5), .lit (.int .u8 63), .lit (.int .u8 55), .lit (.int .u8 48), .lit (.int .u8 27), .lit (.int .u8 60), .lit (.int .u8 41), .lit (.int .u8 37), .lit (.int .u8 16), .lit (.int .u8 46), .lit (.int .u8 35), .lit (.int .u8 44), .lit (.int .u8 21), .lit (.int .u8 52), .lit (.int .u8 32), .lit (.int .u8 23), .lit (.int .u8 11), .lit (.int .u8 54), .lit (.int .u8 26), .lit (.int .u8 40), .lit (.int .u8 15), .lit (.int .u8 34), .lit (.int .u8 20), .lit (.int .u8 31), .lit (.int .u8 10), .lit (.int .u8 25), .lit (.int .u8 14), .lit (.int .u8 19), .lit (.int .u8 9), .lit (.int .u8 13), .lit (.int .u8 8), .lit (.int .u8 7), .lit (.int .u8 6)]
def laid_internal_strconv_uint64pow10 {H : Type} : DataW H := .agg [.lit (.int .u64 1), .lit (.int .u64 10), .lit (.int .u64 100), .lit (.int .u64 1000), .lit (.int .u64 10000), .lit (.int .u64 100000), .lit (.int .u64 1000000), .lit (.int .u64 10000000), .lit (.int .u64 100000000), .lit (.int .u64 1000000000), .lit (.int .u64 10000000000), .lit (.int .u64 100000000000), .lit (.int .u64 1000000000000), .lit (.int .u64 10000000000000), .lit (.int .u64 100000000000000), .lit (.int .u64 1000000000000000), .lit (.int .u64 10000000000000000), .lit (.int .u64 100000000000000000), .lit (.int .u64 1000000000000000000), .lit (.int .u64 10000000000000000000)]
def laid_errors_errorType {H : Type} : DataW H := .iface "internal/reflectlite.rtype" (.agg [.ptr (.lit (.string [101, 114, 114, 111, 114]))])
def laid_strconv_ErrRange {H : Type} : DataW H := .iface "*errors.errorString" (.ptr (.agg [.lit (.string [118, 97, 108, 117, 101, 32, 111, 117, 116, 32, 111, 102, 32, 114, 97, 110, 103, 101])]))
def laid_strconv_ErrSyntax {H : Type} : DataW H := .iface "*errors.errorString" (.ptr (.agg [.lit (.string [105, 110, 118, 97, 108, 105, 100, 32, 115, 121, 110, 116, 97, 120])]))
def laid_bulkhead_manifest_errSyntax {H : Type} : DataW H := .iface "*errors.errorString" (.ptr (.agg [.lit (.string [97, 110, 111, 116, 104, 101, 114, 32, 116, 111, 107, 101, 110, 32, 105, 115, 32, 100, 117, 101, 32, 104, 101, 114, 101])]))
def laid_bulkhead_manifest_errNumber {H : Type} : DataW H := .iface "*errors.errorString" (.ptr (.agg [.lit (.string [97, 32, 110, 117, 109, 98, 101, 114, 32, 111, 102, 32, 119, 114, 111, 110, 103, 32, 102, 111, 114, 109])]))
def laid_bulkhead_manifest_errWord {H : Type} : DataW H := .iface "*errors.errorString" (.ptr (.agg [.lit (.string [97, 32, 119, 111, 114, 100, 32, 116, 104, 97, 116, 32, 105, 115, 32, 116, 111, 111, 32, 108, 111, 110, 103])]))
def laid_bulkhead_manifest_errUnknown {H : Type} : DataW H := .iface "*errors.errorString" (.ptr (.agg [.lit (.string [110, 111, 32, 112, 97, 114, 116, 105, 116, 105, 111, 110, 32, 104, 97, 115, 32, 116, 104, 105, 115, 32, 110, 97, 109, 101])]))

/-- 'bulkheadlaw.Texts': WHATEVER THE INPUT: true; the input reads as it did. -/
def textsSpec : ChangeSpec := { name := "texts", fn := fun _ => fun
  | [d] => { results := [.lit (.bool true)], args := [d] }
  | _ => none }
def textsRow : OpenClaim := { program := "yteioennfpkoagaagreatdoor", sum := "5665f5c0b8a34063fc29277c00a23c40f31fcec5ac0ccbaa6d7700a91aacb1bb", func := "bulkhead/bulkheadlaw.Texts", spec := "texts", inPlace := ["internal/bytealg.CountString", "internal/bytealg.IndexByteString", "internal/bytealg.IndexString", "internal/reflectlite.ValueOf", "(internal/reflectlite.Value).Type", "(internal/reflectlite.Value).IsNil", "internal/reflectlite.TypeOf", "(internal/reflectlite.Value).Elem", "(internal/reflectlite.Value).Set"], unfollowed := true, recurses := true, named := ["internal/bytealg.MaxLen", "bulkhead/manifest.errWord", "bulkhead/manifest.errNumber", "strconv.ErrSyntax", "strconv.ErrRange", "internal/strconv.uint64pow10", "math/bits.deBruijn32tab", "math/bits.deBruijn64tab", "bulkhead/manifest.errSyntax", "bulkhead/manifest.errUnknown", "errors.errorType"], apart := false, laid := [("math/bits.deBruijn32tab", laid_math_bits_deBruijn32tab), ("math/bits.deBruijn64tab", laid_math_bits_deBruijn64tab), ("internal/strconv.uint64pow10", laid_internal_strconv_uint64pow10), ("errors.errorType", laid_errors_errorType), ("strconv.ErrRange", laid_strconv_ErrRange), ("strconv.ErrSyntax", laid_strconv_ErrSyntax), ("bulkhead/manifest.errSyntax", laid_bulkhead_manifest_errSyntax), ("bulkhead/manifest.errNumber", laid_bulkhead_manifest_errNumber), ("bulkhead/manifest.errWord", laid_bulkhead_manifest_errWord), ("bulkhead/manifest.errUnknown", laid_bulkhead_manifest_errUnknown)] }
def TextsSaid : Prop := textsRow.holds Tryz.pinned (OpenSpec.ofChange textsSpec)

/-- ITS FALSE NEIGHBOUR: 'it returns false'. Refute it at one input. -/
def textsWrong : ChangeSpec := { name := "texts", fn := fun _ => fun
  | [d] => { results := [.lit (.bool false)], args := [d] }
  | _ => none }
def TextsWrongFalsely : Prop := textsRow.holds Tryz.pinned (OpenSpec.ofChange textsWrong)

/-- 'bulkheadlaw.All': WHATEVER THE INPUT: true; the input reads as it did. -/
def allSpec : ChangeSpec := { name := "all", fn := fun _ => fun
  | [d1, d2, d3] => { results := [.lit (.bool true)], args := [d1, d2, d3] }
  | _ => none }
def allRow : OpenClaim := { program := "yteioennfpkoagaagreatdoor", sum := "5665f5c0b8a34063fc29277c00a23c40f31fcec5ac0ccbaa6d7700a91aacb1bb", func := "bulkhead/bulkheadlaw.All", spec := "all", unfollowed := true, recurses := true, named := ["internal/strconv.uint64pow10", "math/bits.deBruijn32tab", "math/bits.deBruijn64tab"], apart := false, laid := [("math/bits.deBruijn32tab", laid_math_bits_deBruijn32tab), ("math/bits.deBruijn64tab", laid_math_bits_deBruijn64tab), ("internal/strconv.uint64pow10", laid_internal_strconv_uint64pow10)] }
def AllSaid : Prop := allRow.holds Tryz.pinned (OpenSpec.ofChange allSpec)

/-- ITS FALSE NEIGHBOUR: 'it returns false'. Refute it at one input. -/
def allWrong : ChangeSpec := { name := "all", fn := fun _ => fun
  | [d1, d2, d3] => { results := [.lit (.bool false)], args := [d1, d2, d3] }
  | _ => none }
def AllWrongFalsely : Prop := allRow.holds Tryz.pinned (OpenSpec.ofChange allWrong)

/-- 'bulkheadkeep.Printed': WHATEVER THE INPUT: true; the input reads as it did. -/
def printedSpec : ChangeSpec := { name := "printed", fn := fun _ => fun
  | [d1, d2] => { results := [.lit (.bool true)], args := [d1, d2] }
  | _ => none }
def printedRow : OpenClaim := { program := "yteioennfpkoagaagreatdoor", sum := "5665f5c0b8a34063fc29277c00a23c40f31fcec5ac0ccbaa6d7700a91aacb1bb", func := "bulkhead/bulkheadkeep.Printed", spec := "printed", inPlace := ["internal/abi.NoEscape", "internal/bytealg.MakeNoZero", "internal/bytealg.CountString", "internal/bytealg.IndexByteString", "internal/bytealg.IndexString", "internal/reflectlite.ValueOf", "(internal/reflectlite.Value).Type", "(internal/reflectlite.Value).IsNil", "internal/reflectlite.TypeOf", "(internal/reflectlite.Value).Elem", "(internal/reflectlite.Value).Set"], unfollowed := true, recurses := true, named := ["internal/strconv.uint64pow10", "math/bits.deBruijn32tab", "math/bits.deBruijn64tab", "internal/bytealg.MaxLen", "bulkhead/manifest.errWord", "bulkhead/manifest.errNumber", "strconv.ErrSyntax", "strconv.ErrRange", "bulkhead/manifest.errSyntax", "bulkhead/manifest.errUnknown", "errors.errorType"], apart := false, laid := [("math/bits.deBruijn32tab", laid_math_bits_deBruijn32tab), ("math/bits.deBruijn64tab", laid_math_bits_deBruijn64tab), ("internal/strconv.uint64pow10", laid_internal_strconv_uint64pow10), ("errors.errorType", laid_errors_errorType), ("strconv.ErrRange", laid_strconv_ErrRange), ("strconv.ErrSyntax", laid_strconv_ErrSyntax), ("bulkhead/manifest.errSyntax", laid_bulkhead_manifest_errSyntax), ("bulkhead/manifest.errNumber", laid_bulkhead_manifest_errNumber), ("bulkhead/manifest.errWord", laid_bulkhead_manifest_errWord), ("bulkhead/manifest.errUnknown", laid_bulkhead_manifest_errUnknown)] }
def PrintedSaid : Prop := printedRow.holds Tryz.pinned (OpenSpec.ofChange printedSpec)

/-- ITS FALSE NEIGHBOUR: 'it returns false'. Refute it at one input. -/
def printedWrong : ChangeSpec := { name := "printed", fn := fun _ => fun
  | [d1, d2] => { results := [.lit (.bool false)], args := [d1, d2] }
  | _ => none }
def PrintedWrongFalsely : Prop := printedRow.holds Tryz.pinned (OpenSpec.ofChange printedWrong)

/-- 'bulkheadkeep.Loaded': WHATEVER THE INPUT: true; the input reads as it did. -/
def loadedSpec : ChangeSpec := { name := "loaded", fn := fun _ => fun
  | [d1, d2, d3] => { results := [.lit (.bool true)], args := [d1, d2, d3] }
  | _ => none }
def loadedRow : OpenClaim := { program := "yteioennfpkoagaagreatdoor", sum := "5665f5c0b8a34063fc29277c00a23c40f31fcec5ac0ccbaa6d7700a91aacb1bb", func := "bulkhead/bulkheadkeep.Loaded", spec := "loaded", unfollowed := true, recurses := true, named := ["internal/strconv.uint64pow10", "math/bits.deBruijn32tab", "math/bits.deBruijn64tab"], apart := false, laid := [("math/bits.deBruijn32tab", laid_math_bits_deBruijn32tab), ("math/bits.deBruijn64tab", laid_math_bits_deBruijn64tab), ("internal/strconv.uint64pow10", laid_internal_strconv_uint64pow10)] }
def LoadedSaid : Prop := loadedRow.holds Tryz.pinned (OpenSpec.ofChange loadedSpec)

/-- ITS FALSE NEIGHBOUR: 'it returns false'. Refute it at one input. -/
def loadedWrong : ChangeSpec := { name := "loaded", fn := fun _ => fun
  | [d1, d2, d3] => { results := [.lit (.bool false)], args := [d1, d2, d3] }
  | _ => none }
def LoadedWrongFalsely : Prop := loadedRow.holds Tryz.pinned (OpenSpec.ofChange loadedWrong)

/-- 'bulkheadkeep.Damaged': WHATEVER THE INPUT: true; the input reads as it did. -/
def damagedSpec : ChangeSpec := { name := "damaged", fn := fun _ => fun
  | [d1, d2, d3, d4] => { results := [.lit (.bool true)], args := [d1, d2, d3, d4] }
  | _ => none }
def damagedRow : OpenClaim := { program := "yteioennfpkoagaagreatdoor", sum := "5665f5c0b8a34063fc29277c00a23c40f31fcec5ac0ccbaa6d7700a91aacb1bb", func := "bulkhead/bulkheadkeep.Damaged", spec := "damaged", unfollowed := true, recurses := true, named := ["internal/strconv.uint64pow10", "math/bits.deBruijn32tab", "math/bits.deBruijn64tab"], apart := false, laid := [("math/bits.deBruijn32tab", laid_math_bits_deBruijn32tab), ("math/bits.deBruijn64tab", laid_math_bits_deBruijn64tab), ("internal/strconv.uint64pow10", laid_internal_strconv_uint64pow10)] }
def DamagedSaid : Prop := damagedRow.holds Tryz.pinned (OpenSpec.ofChange damagedSpec)

/-- ITS FALSE NEIGHBOUR: 'it returns false'. Refute it at one input. -/
def damagedWrong : ChangeSpec := { name := "damaged", fn := fun _ => fun
  | [d1, d2, d3, d4] => { results := [.lit (.bool false)], args := [d1, d2, d3, d4] }
  | _ => none }
def DamagedWrongFalsely : Prop := damagedRow.holds Tryz.pinned (OpenSpec.ofChange damagedWrong)

/-- 'bulkheadkeep.Apart': WHATEVER THE INPUT: true; the input reads as it did. -/
def apartSpec : ChangeSpec := { name := "apart", fn := fun _ => fun
  | [d1, d2, d3] => { results := [.lit (.bool true)], args := [d1, d2, d3] }
  | _ => none }
def apartRow : OpenClaim := { program := "yteioennfpkoagaagreatdoor", sum := "5665f5c0b8a34063fc29277c00a23c40f31fcec5ac0ccbaa6d7700a91aacb1bb", func := "bulkhead/bulkheadkeep.Apart", spec := "apart", unfollowed := true, recurses := true, named := ["internal/strconv.uint64pow10", "math/bits.deBruijn32tab", "math/bits.deBruijn64tab"], apart := false, laid := [("math/bits.deBruijn32tab", laid_math_bits_deBruijn32tab), ("math/bits.deBruijn64tab", laid_math_bits_deBruijn64tab), ("internal/strconv.uint64pow10", laid_internal_strconv_uint64pow10)] }
def ApartSaid : Prop := apartRow.holds Tryz.pinned (OpenSpec.ofChange apartSpec)

/-- ITS FALSE NEIGHBOUR: 'it returns false'. Refute it at one input. -/
def apartWrong : ChangeSpec := { name := "apart", fn := fun _ => fun
  | [d1, d2, d3] => { results := [.lit (.bool false)], args := [d1, d2, d3] }
  | _ => none }
def ApartWrongFalsely : Prop := apartRow.holds Tryz.pinned (OpenSpec.ofChange apartWrong)

/-- 'bulkheadkeep.Windows': WHATEVER THE INPUT: true; the input reads as it did. -/
def windowsSpec : ChangeSpec := { name := "windows", fn := fun _ => fun
  | [d1, d2] => { results := [.lit (.bool true)], args := [d1, d2] }
  | _ => none }
def windowsRow : OpenClaim := { program := "yteioennfpkoagaagreatdoor", sum := "5665f5c0b8a34063fc29277c00a23c40f31fcec5ac0ccbaa6d7700a91aacb1bb", func := "bulkhead/bulkheadkeep.Windows", spec := "windows", unfollowed := true, recurses := true, named := ["internal/strconv.uint64pow10", "math/bits.deBruijn32tab", "math/bits.deBruijn64tab"], apart := false, laid := [("math/bits.deBruijn32tab", laid_math_bits_deBruijn32tab), ("math/bits.deBruijn64tab", laid_math_bits_deBruijn64tab), ("internal/strconv.uint64pow10", laid_internal_strconv_uint64pow10)] }
def WindowsSaid : Prop := windowsRow.holds Tryz.pinned (OpenSpec.ofChange windowsSpec)

/-- ITS FALSE NEIGHBOUR: 'it returns false'. Refute it at one input. -/
def windowsWrong : ChangeSpec := { name := "windows", fn := fun _ => fun
  | [d1, d2] => { results := [.lit (.bool false)], args := [d1, d2] }
  | _ => none }
def WindowsWrongFalsely : Prop := windowsRow.holds Tryz.pinned (OpenSpec.ofChange windowsWrong)

/-- 'bulkheadkeep.Fails': WHATEVER THE INPUT: true; the input reads as it did. -/
def failsSpec : ChangeSpec := { name := "fails", fn := fun _ => fun
  | [d1, d2] => { results := [.lit (.bool true)], args := [d1, d2] }
  | _ => none }
def failsRow : OpenClaim := { program := "yteioennfpkoagaagreatdoor", sum := "5665f5c0b8a34063fc29277c00a23c40f31fcec5ac0ccbaa6d7700a91aacb1bb", func := "bulkhead/bulkheadkeep.Fails", spec := "fails", unfollowed := true, recurses := true, named := ["internal/strconv.uint64pow10", "math/bits.deBruijn32tab", "math/bits.deBruijn64tab"], apart := false, laid := [("math/bits.deBruijn32tab", laid_math_bits_deBruijn32tab), ("math/bits.deBruijn64tab", laid_math_bits_deBruijn64tab), ("internal/strconv.uint64pow10", laid_internal_strconv_uint64pow10)] }
def FailsSaid : Prop := failsRow.holds Tryz.pinned (OpenSpec.ofChange failsSpec)

/-- ITS FALSE NEIGHBOUR: 'it returns false'. Refute it at one input. -/
def failsWrong : ChangeSpec := { name := "fails", fn := fun _ => fun
  | [d1, d2] => { results := [.lit (.bool false)], args := [d1, d2] }
  | _ => none }
def FailsWrongFalsely : Prop := failsRow.holds Tryz.pinned (OpenSpec.ofChange failsWrong)

/-- 'bulkheadkeep.Queued': WHATEVER THE INPUT: true; the input reads as it did. -/
def queuedSpec : ChangeSpec := { name := "queued", fn := fun _ => fun
  | [d1, d2, d3] => { results := [.lit (.bool true)], args := [d1, d2, d3] }
  | _ => none }
def queuedRow : OpenClaim := { program := "yteioennfpkoagaagreatdoor", sum := "5665f5c0b8a34063fc29277c00a23c40f31fcec5ac0ccbaa6d7700a91aacb1bb", func := "bulkhead/bulkheadkeep.Queued", spec := "queued", unfollowed := true, recurses := true, named := ["internal/strconv.uint64pow10", "math/bits.deBruijn32tab", "math/bits.deBruijn64tab"], apart := false, laid := [("math/bits.deBruijn32tab", laid_math_bits_deBruijn32tab), ("math/bits.deBruijn64tab", laid_math_bits_deBruijn64tab), ("internal/strconv.uint64pow10", laid_internal_strconv_uint64pow10)] }
def QueuedSaid : Prop := queuedRow.holds Tryz.pinned (OpenSpec.ofChange queuedSpec)

/-- ITS FALSE NEIGHBOUR: 'it returns false'. Refute it at one input. -/
def queuedWrong : ChangeSpec := { name := "queued", fn := fun _ => fun
  | [d1, d2, d3] => { results := [.lit (.bool false)], args := [d1, d2, d3] }
  | _ => none }
def QueuedWrongFalsely : Prop := queuedRow.holds Tryz.pinned (OpenSpec.ofChange queuedWrong)

/- THE SECOND FORM. 'bulk': how many values and letters a reading holds, each counted each time it is reached (what is shared counts as often as it is met; a slice's spare places count too). A statement '..UptoSaid' is the law's where the arguments, and the package variables that the reading takes, are together of bulk at most 1048576: NARROWER than '..Said'. Prove '..Said' where nothing that the law and all that it calls make is longer than what came in: it says more and counts as full. Else prove '..UptoSaid'. A law counts once. -/
mutual
def uptoBulk {H : Type} : DataW H → Nat
  | .lit (.string bytes) => bytes.length + 1
  | .lit _ => 1
  | .nil => 1
  | .ptr d => uptoBulk d + 1
  | .slice elems spare => uptoBulkAll elems + uptoBulkAll spare + 1
  | .agg parts => uptoBulkAll parts + 1
  | .iface _ d => uptoBulk d + 1
  | .map entries => uptoBulkEntries entries + 1
  | .held _ => 1
def uptoBulkAll {H : Type} : List (DataW H) → Nat
  | [] => 0
  | d :: r => uptoBulk d + uptoBulkAll r
def uptoBulkEntries {H : Type} : List (Lit × DataW H) → Nat
  | [] => 0
  | x :: r => uptoBulkEntry x + uptoBulkEntries r
def uptoBulkEntry {H : Type} : Lit × DataW H → Nat
  | (.string bytes, d) => bytes.length + uptoBulk d + 1
  | (_, d) => uptoBulk d + 1
 end
def uptoSmall : (H : Type) → List (DataW H) → Bool := fun _ ds => decide (uptoBulkAll ds ≤ 1048576)
def OpenSpec.upto (s : _root_.Go.ChangeSpec) : _root_.Go.OpenSpec := { _root_.Go.OpenSpec.ofChange s with cond := some uptoSmall }

/-- 'bulkheadlaw.Texts', WHERE WHAT IT READS IS OF BULK AT MOST 1048576: true; the input reads as it did. -/
def textsUptoRow : OpenClaim := { program := "yteioennfpkoagaagreatdoor", sum := "5665f5c0b8a34063fc29277c00a23c40f31fcec5ac0ccbaa6d7700a91aacb1bb", func := "bulkhead/bulkheadlaw.Texts", spec := "texts", inPlace := ["internal/bytealg.CountString", "internal/bytealg.IndexByteString", "internal/bytealg.IndexString", "internal/reflectlite.ValueOf", "(internal/reflectlite.Value).Type", "(internal/reflectlite.Value).IsNil", "internal/reflectlite.TypeOf", "(internal/reflectlite.Value).Elem", "(internal/reflectlite.Value).Set"], unfollowed := true, recurses := true, named := ["internal/bytealg.MaxLen", "bulkhead/manifest.errWord", "bulkhead/manifest.errNumber", "strconv.ErrSyntax", "strconv.ErrRange", "internal/strconv.uint64pow10", "math/bits.deBruijn32tab", "math/bits.deBruijn64tab", "bulkhead/manifest.errSyntax", "bulkhead/manifest.errUnknown", "errors.errorType"], apart := false, laid := [("math/bits.deBruijn32tab", laid_math_bits_deBruijn32tab), ("math/bits.deBruijn64tab", laid_math_bits_deBruijn64tab), ("internal/strconv.uint64pow10", laid_internal_strconv_uint64pow10), ("errors.errorType", laid_errors_errorType), ("strconv.ErrRange", laid_strconv_ErrRange), ("strconv.ErrSyntax", laid_strconv_ErrSyntax), ("bulkhead/manifest.errSyntax", laid_bulkhead_manifest_errSyntax), ("bulkhead/manifest.errNumber", laid_bulkhead_manifest_errNumber), ("bulkhead/manifest.errWord", laid_bulkhead_manifest_errWord), ("bulkhead/manifest.errUnknown", laid_bulkhead_manifest_errUnknown)], narrowed := true }
def TextsUptoSaid : Prop := textsUptoRow.holds Tryz.pinned (OpenSpec.upto textsSpec)

/-- 'bulkheadlaw.All', WHERE WHAT IT READS IS OF BULK AT MOST 1048576: true; the input reads as it did. -/
def allUptoRow : OpenClaim := { program := "yteioennfpkoagaagreatdoor", sum := "5665f5c0b8a34063fc29277c00a23c40f31fcec5ac0ccbaa6d7700a91aacb1bb", func := "bulkhead/bulkheadlaw.All", spec := "all", unfollowed := true, recurses := true, named := ["internal/strconv.uint64pow10", "math/bits.deBruijn32tab", "math/bits.deBruijn64tab"], apart := false, laid := [("math/bits.deBruijn32tab", laid_math_bits_deBruijn32tab), ("math/bits.deBruijn64tab", laid_math_bits_deBruijn64tab), ("internal/strconv.uint64pow10", laid_internal_strconv_uint64pow10)], narrowed := true }
def AllUptoSaid : Prop := allUptoRow.holds Tryz.pinned (OpenSpec.upto allSpec)

/-- 'bulkheadkeep.Printed', WHERE WHAT IT READS IS OF BULK AT MOST 1048576: true; the input reads as it did. -/
def printedUptoRow : OpenClaim := { program := "yteioennfpkoagaagreatdoor", sum := "5665f5c0b8a34063fc29277c00a23c40f31fcec5ac0ccbaa6d7700a91aacb1bb", func := "bulkhead/bulkheadkeep.Printed", spec := "printed", inPlace := ["internal/abi.NoEscape", "internal/bytealg.MakeNoZero", "internal/bytealg.CountString", "internal/bytealg.IndexByteString", "internal/bytealg.IndexString", "internal/reflectlite.ValueOf", "(internal/reflectlite.Value).Type", "(internal/reflectlite.Value).IsNil", "internal/reflectlite.TypeOf", "(internal/reflectlite.Value).Elem", "(internal/reflectlite.Value).Set"], unfollowed := true, recurses := true, named := ["internal/strconv.uint64pow10", "math/bits.deBruijn32tab", "math/bits.deBruijn64tab", "internal/bytealg.MaxLen", "bulkhead/manifest.errWord", "bulkhead/manifest.errNumber", "strconv.ErrSyntax", "strconv.ErrRange", "bulkhead/manifest.errSyntax", "bulkhead/manifest.errUnknown", "errors.errorType"], apart := false, laid := [("math/bits.deBruijn32tab", laid_math_bits_deBruijn32tab), ("math/bits.deBruijn64tab", laid_math_bits_deBruijn64tab), ("internal/strconv.uint64pow10", laid_internal_strconv_uint64pow10), ("errors.errorType", laid_errors_errorType), ("strconv.ErrRange", laid_strconv_ErrRange), ("strconv.ErrSyntax", laid_strconv_ErrSyntax), ("bulkhead/manifest.errSyntax", laid_bulkhead_manifest_errSyntax), ("bulkhead/manifest.errNumber", laid_bulkhead_manifest_errNumber), ("bulkhead/manifest.errWord", laid_bulkhead_manifest_errWord), ("bulkhead/manifest.errUnknown", laid_bulkhead_manifest_errUnknown)], narrowed := true }
def PrintedUptoSaid : Prop := printedUptoRow.holds Tryz.pinned (OpenSpec.upto printedSpec)

/-- 'bulkheadkeep.Loaded', WHERE WHAT IT READS IS OF BULK AT MOST 1048576: true; the input reads as it did. -/
def loadedUptoRow : OpenClaim := { program := "yteioennfpkoagaagreatdoor", sum := "5665f5c0b8a34063fc29277c00a23c40f31fcec5ac0ccbaa6d7700a91aacb1bb", func := "bulkhead/bulkheadkeep.Loaded", spec := "loaded", unfollowed := true, recurses := true, named := ["internal/strconv.uint64pow10", "math/bits.deBruijn32tab", "math/bits.deBruijn64tab"], apart := false, laid := [("math/bits.deBruijn32tab", laid_math_bits_deBruijn32tab), ("math/bits.deBruijn64tab", laid_math_bits_deBruijn64tab), ("internal/strconv.uint64pow10", laid_internal_strconv_uint64pow10)], narrowed := true }
def LoadedUptoSaid : Prop := loadedUptoRow.holds Tryz.pinned (OpenSpec.upto loadedSpec)

/-- 'bulkheadkeep.Damaged', WHERE WHAT IT READS IS OF BULK AT MOST 1048576: true; the input reads as it did. -/
def damagedUptoRow : OpenClaim := { program := "yteioennfpkoagaagreatdoor", sum := "5665f5c0b8a34063fc29277c00a23c40f31fcec5ac0ccbaa6d7700a91aacb1bb", func := "bulkhead/bulkheadkeep.Damaged", spec := "damaged", unfollowed := true, recurses := true, named := ["internal/strconv.uint64pow10", "math/bits.deBruijn32tab", "math/bits.deBruijn64tab"], apart := false, laid := [("math/bits.deBruijn32tab", laid_math_bits_deBruijn32tab), ("math/bits.deBruijn64tab", laid_math_bits_deBruijn64tab), ("internal/strconv.uint64pow10", laid_internal_strconv_uint64pow10)], narrowed := true }
def DamagedUptoSaid : Prop := damagedUptoRow.holds Tryz.pinned (OpenSpec.upto damagedSpec)

/-- 'bulkheadkeep.Apart', WHERE WHAT IT READS IS OF BULK AT MOST 1048576: true; the input reads as it did. -/
def apartUptoRow : OpenClaim := { program := "yteioennfpkoagaagreatdoor", sum := "5665f5c0b8a34063fc29277c00a23c40f31fcec5ac0ccbaa6d7700a91aacb1bb", func := "bulkhead/bulkheadkeep.Apart", spec := "apart", unfollowed := true, recurses := true, named := ["internal/strconv.uint64pow10", "math/bits.deBruijn32tab", "math/bits.deBruijn64tab"], apart := false, laid := [("math/bits.deBruijn32tab", laid_math_bits_deBruijn32tab), ("math/bits.deBruijn64tab", laid_math_bits_deBruijn64tab), ("internal/strconv.uint64pow10", laid_internal_strconv_uint64pow10)], narrowed := true }
def ApartUptoSaid : Prop := apartUptoRow.holds Tryz.pinned (OpenSpec.upto apartSpec)

/-- 'bulkheadkeep.Windows', WHERE WHAT IT READS IS OF BULK AT MOST 1048576: true; the input reads as it did. -/
def windowsUptoRow : OpenClaim := { program := "yteioennfpkoagaagreatdoor", sum := "5665f5c0b8a34063fc29277c00a23c40f31fcec5ac0ccbaa6d7700a91aacb1bb", func := "bulkhead/bulkheadkeep.Windows", spec := "windows", unfollowed := true, recurses := true, named := ["internal/strconv.uint64pow10", "math/bits.deBruijn32tab", "math/bits.deBruijn64tab"], apart := false, laid := [("math/bits.deBruijn32tab", laid_math_bits_deBruijn32tab), ("math/bits.deBruijn64tab", laid_math_bits_deBruijn64tab), ("internal/strconv.uint64pow10", laid_internal_strconv_uint64pow10)], narrowed := true }
def WindowsUptoSaid : Prop := windowsUptoRow.holds Tryz.pinned (OpenSpec.upto windowsSpec)

/-- 'bulkheadkeep.Fails', WHERE WHAT IT READS IS OF BULK AT MOST 1048576: true; the input reads as it did. -/
def failsUptoRow : OpenClaim := { program := "yteioennfpkoagaagreatdoor", sum := "5665f5c0b8a34063fc29277c00a23c40f31fcec5ac0ccbaa6d7700a91aacb1bb", func := "bulkhead/bulkheadkeep.Fails", spec := "fails", unfollowed := true, recurses := true, named := ["internal/strconv.uint64pow10", "math/bits.deBruijn32tab", "math/bits.deBruijn64tab"], apart := false, laid := [("math/bits.deBruijn32tab", laid_math_bits_deBruijn32tab), ("math/bits.deBruijn64tab", laid_math_bits_deBruijn64tab), ("internal/strconv.uint64pow10", laid_internal_strconv_uint64pow10)], narrowed := true }
def FailsUptoSaid : Prop := failsUptoRow.holds Tryz.pinned (OpenSpec.upto failsSpec)

/-- 'bulkheadkeep.Queued', WHERE WHAT IT READS IS OF BULK AT MOST 1048576: true; the input reads as it did. -/
def queuedUptoRow : OpenClaim := { program := "yteioennfpkoagaagreatdoor", sum := "5665f5c0b8a34063fc29277c00a23c40f31fcec5ac0ccbaa6d7700a91aacb1bb", func := "bulkhead/bulkheadkeep.Queued", spec := "queued", unfollowed := true, recurses := true, named := ["internal/strconv.uint64pow10", "math/bits.deBruijn32tab", "math/bits.deBruijn64tab"], apart := false, laid := [("math/bits.deBruijn32tab", laid_math_bits_deBruijn32tab), ("math/bits.deBruijn64tab", laid_math_bits_deBruijn64tab), ("internal/strconv.uint64pow10", laid_internal_strconv_uint64pow10)], narrowed := true }
def QueuedUptoSaid : Prop := queuedUptoRow.holds Tryz.pinned (OpenSpec.upto queuedSpec)

end Rows
end Go.Proofs.YteioennfpkoagaaGreatDoor

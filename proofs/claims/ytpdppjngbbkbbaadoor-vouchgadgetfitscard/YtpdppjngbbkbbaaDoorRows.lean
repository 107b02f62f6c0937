/-
  NARROWER THAN 'FOR EVERY INPUT', by the rows' own cells (each row's printed sentence says how): VouchCovers: laid · VouchBarriers: laid · VouchDuals: laid · VouchGadgets: laid · VouchEvens: laid · VouchCoverSound: laid · VouchBarrierSound: laid · VouchDualSound: laid · VouchManySound: laid · VouchEvenSound: laid · VouchFull: laid · VouchGadgetFits: laid · VouchRests: laid.
  DERIVED. THE GIVEN ROWS OF THIS SEAT. 13 by the template 'for every input the law returns true; each argument reads behind the call as it read before'; 0 by the template 'total and deterministic' (their statements: YtpdppjngbbkbbaaDoorTotals.lean).
  GIVEN WITH THE SEED: the statements are not yours to turn. If you find one false, say at which input.
  Laid BY PROGRAM, IN A SANDBOX (cutbox-rows.mjs): the forced cells as the released guide's own fill.sh prints them over the translation 4d84e56aa4a77ab8… (all of the seat's roots in one cut). By AI agents, Wed Nov 11 2026. No macro, syntax, notation, axiom, sorry.
-/
import Derived.Test.YtpdppjngbbkbbaaDoorChecked
import GoSem.Claim
import GoSem.ClaimJoined
import GoSem.ClaimMapViews
import Derived.JoinedTies
import Derived.KernelRfl
namespace Go.Proofs.YtpdppjngbbkbbaaDoor
/- THE CELL 'sum', in the pinned program and in every row, IS THE sha256 OF THE DUMP (.gsa) THAT YtpdppjngbbkbbaaDoorProg.lean LOADS. Nothing in Lean hashes anything: it is a label: what it is worth is what the hold of that sum in a sandbox is worth. -/
noncomputable def Tryd.pinned : Pinned := { name := "ytpdppjngbbkbbaadoor", sum := "4d84e56aa4a77ab84bc447c3e53cb2e2cf1e6449639ef60c8fd627b296d8b5a9", checked := Tryd.checked }
namespace Rows
def none {H : Type} : Left H := { results := [], args := [] }

/- WHAT THE LISTED PACKAGE-LEVEL VARIABLES READ AS WHEN THE CALL BEGINS. Each datum BY PROGRAM (the guide's laid-datum.mjs) off the statement by which the dump's own 'gosem.cut.vars' lays the variable. In a bare row this is a premise. The card (YtpdppjngbbkbbaaDoorCards.lean) ties it to the program's text. -/
def laid_math_bits_deBruijn64tab {H : Type} : DataW H := .agg [.lit (.int .u8 0), .lit (.int .u8 1), .lit (.int .u8 56), .lit (.int .u8 2), .lit (.int .u8 57), .lit (.int .u8 49), .lit (.int .u8 28), .lit (.int .u8 3), .lit (.int .u8 61), .lit (.int .u8 58), .lit (.int .u8 42), .lit (.int .u8 50), .lit (.int .u8 38), .lit (.int .u8 29), .lit (.int .u8 17), .lit (.int .u8 4), .lit (.int .u8 62), .lit (.int .u8 47), .lit (.int .u8 59), .lit (.int .u8 36), .lit (.int .u8 45), .lit (.int .u8 43), .lit (.int .u8 51), .lit (.int .u8 22), .lit (.int .u8 53), .lit (.int .u8 39), .lit (.int .u8 33), .lit (.int .u8 30), .lit (.int .u8 24), .lit (.int .u8 18), .lit (.int .u8 12), .lit (.int .u8 5), .lit (.int .u8 63), .lit (.int .u8 55), .lit (.int .u8 48), .lit (.int .u8 27), .lit (.int .u8 60), .lit (.int .u8 41), .lit (.int .u8 37), .lit (.int .u8 16), .lit (.int .u8 46), .lit (.int .u8 35), .lit (.int .u8 44), .lit (.int .u8 21), .lit (.int .u8 52), .lit (.int .u8 32), .lit (.int .u8 23), .lit (.int .u8 11), .lit (.int .u8 54), .lit (.int .u8 26), .lit (.int .u8 40), .lit (.int .u8 15), .lit (.int .u8 34), .lit (.int .u8 20), .lit (.int .u8 31), .lit (.int .u8 10), .lit (.int .u8 25), .lit (.int .u8 14), .lit (.int .u8 19), .lit (.int .u8 9), .lit (.int .u8 13), .lit (.int .u8 8), .lit (.int .u8 7), .lit (.int .u8 6)]

/-- 'compasslaw12.VouchCovers': WHATEVER THE INPUT: true; the input reads as it did. -/
def vouchCoversSpec : ChangeSpec := { name := "vouchCovers", fn := fun _ => fun
  | [d1, d2] => { results := [.lit (.bool true)], args := [d1, d2] }
  | _ => none }
def vouchCoversRow : OpenClaim := { program := "ytpdppjngbbkbbaadoor", sum := "4d84e56aa4a77ab84bc447c3e53cb2e2cf1e6449639ef60c8fd627b296d8b5a9", func := "compass/compasslaw12.VouchCovers", spec := "vouchCovers", unfollowed := true, recurses := true, named := ["math/bits.deBruijn64tab"], apart := false, laid := [("math/bits.deBruijn64tab", laid_math_bits_deBruijn64tab)] }
def VouchCoversSaid : Prop := vouchCoversRow.holds Tryd.pinned (OpenSpec.ofChange vouchCoversSpec)

/-- ITS FALSE NEIGHBOUR: 'it returns false'. Refute it at one input. -/
def vouchCoversWrong : ChangeSpec := { name := "vouchCovers", fn := fun _ => fun
  | [d1, d2] => { results := [.lit (.bool false)], args := [d1, d2] }
  | _ => none }
def VouchCoversWrongFalsely : Prop := vouchCoversRow.holds Tryd.pinned (OpenSpec.ofChange vouchCoversWrong)

/-- 'compasslaw12.VouchBarriers': WHATEVER THE INPUT: true; the input reads as it did. -/
def vouchBarriersSpec : ChangeSpec := { name := "vouchBarriers", fn := fun _ => fun
  | [d1, d2, d3] => { results := [.lit (.bool true)], args := [d1, d2, d3] }
  | _ => none }
def vouchBarriersRow : OpenClaim := { program := "ytpdppjngbbkbbaadoor", sum := "4d84e56aa4a77ab84bc447c3e53cb2e2cf1e6449639ef60c8fd627b296d8b5a9", func := "compass/compasslaw12.VouchBarriers", spec := "vouchBarriers", unfollowed := true, recurses := true, named := ["math/bits.deBruijn64tab"], apart := false, laid := [("math/bits.deBruijn64tab", laid_math_bits_deBruijn64tab)] }
def VouchBarriersSaid : Prop := vouchBarriersRow.holds Tryd.pinned (OpenSpec.ofChange vouchBarriersSpec)

/-- ITS FALSE NEIGHBOUR: 'it returns false'. Refute it at one input. -/
def vouchBarriersWrong : ChangeSpec := { name := "vouchBarriers", fn := fun _ => fun
  | [d1, d2, d3] => { results := [.lit (.bool false)], args := [d1, d2, d3] }
  | _ => none }
def VouchBarriersWrongFalsely : Prop := vouchBarriersRow.holds Tryd.pinned (OpenSpec.ofChange vouchBarriersWrong)

/-- 'compasslaw12.VouchDuals': WHATEVER THE INPUT: true; the input reads as it did. -/
def vouchDualsSpec : ChangeSpec := { name := "vouchDuals", fn := fun _ => fun
  | [d1, d2, d3] => { results := [.lit (.bool true)], args := [d1, d2, d3] }
  | _ => none }
def vouchDualsRow : OpenClaim := { program := "ytpdppjngbbkbbaadoor", sum := "4d84e56aa4a77ab84bc447c3e53cb2e2cf1e6449639ef60c8fd627b296d8b5a9", func := "compass/compasslaw12.VouchDuals", spec := "vouchDuals", unfollowed := true, recurses := true, named := ["math/bits.deBruijn64tab"], apart := false, laid := [("math/bits.deBruijn64tab", laid_math_bits_deBruijn64tab)] }
def VouchDualsSaid : Prop := vouchDualsRow.holds Tryd.pinned (OpenSpec.ofChange vouchDualsSpec)

/-- ITS FALSE NEIGHBOUR: 'it returns false'. Refute it at one input. -/
def vouchDualsWrong : ChangeSpec := { name := "vouchDuals", fn := fun _ => fun
  | [d1, d2, d3] => { results := [.lit (.bool false)], args := [d1, d2, d3] }
  | _ => none }
def VouchDualsWrongFalsely : Prop := vouchDualsRow.holds Tryd.pinned (OpenSpec.ofChange vouchDualsWrong)

/-- 'compasslaw12.VouchGadgets': WHATEVER THE INPUT: true; the input reads as it did. -/
def vouchGadgetsSpec : ChangeSpec := { name := "vouchGadgets", fn := fun _ => fun
  | [d1, d2] => { results := [.lit (.bool true)], args := [d1, d2] }
  | _ => none }
def vouchGadgetsRow : OpenClaim := { program := "ytpdppjngbbkbbaadoor", sum := "4d84e56aa4a77ab84bc447c3e53cb2e2cf1e6449639ef60c8fd627b296d8b5a9", func := "compass/compasslaw12.VouchGadgets", spec := "vouchGadgets", unfollowed := true, recurses := true, named := ["math/bits.deBruijn64tab"], apart := false, laid := [("math/bits.deBruijn64tab", laid_math_bits_deBruijn64tab)] }
def VouchGadgetsSaid : Prop := vouchGadgetsRow.holds Tryd.pinned (OpenSpec.ofChange vouchGadgetsSpec)

/-- ITS FALSE NEIGHBOUR: 'it returns false'. Refute it at one input. -/
def vouchGadgetsWrong : ChangeSpec := { name := "vouchGadgets", fn := fun _ => fun
  | [d1, d2] => { results := [.lit (.bool false)], args := [d1, d2] }
  | _ => none }
def VouchGadgetsWrongFalsely : Prop := vouchGadgetsRow.holds Tryd.pinned (OpenSpec.ofChange vouchGadgetsWrong)

/-- 'compasslaw12.VouchEvens': WHATEVER THE INPUT: true; the input reads as it did. -/
def vouchEvensSpec : ChangeSpec := { name := "vouchEvens", fn := fun _ => fun
  | [d1, d2] => { results := [.lit (.bool true)], args := [d1, d2] }
  | _ => none }
def vouchEvensRow : OpenClaim := { program := "ytpdppjngbbkbbaadoor", sum := "4d84e56aa4a77ab84bc447c3e53cb2e2cf1e6449639ef60c8fd627b296d8b5a9", func := "compass/compasslaw12.VouchEvens", spec := "vouchEvens", unfollowed := true, recurses := true, named := ["math/bits.deBruijn64tab"], apart := false, laid := [("math/bits.deBruijn64tab", laid_math_bits_deBruijn64tab)] }
def VouchEvensSaid : Prop := vouchEvensRow.holds Tryd.pinned (OpenSpec.ofChange vouchEvensSpec)

/-- ITS FALSE NEIGHBOUR: 'it returns false'. Refute it at one input. -/
def vouchEvensWrong : ChangeSpec := { name := "vouchEvens", fn := fun _ => fun
  | [d1, d2] => { results := [.lit (.bool false)], args := [d1, d2] }
  | _ => none }
def VouchEvensWrongFalsely : Prop := vouchEvensRow.holds Tryd.pinned (OpenSpec.ofChange vouchEvensWrong)

/-- 'compasslaw12.VouchCoverSound': WHATEVER THE INPUT: true; the input reads as it did. -/
def vouchCoverSoundSpec : ChangeSpec := { name := "vouchCoverSound", fn := fun _ => fun
  | [d1, d2, d3] => { results := [.lit (.bool true)], args := [d1, d2, d3] }
  | _ => none }
def vouchCoverSoundRow : OpenClaim := { program := "ytpdppjngbbkbbaadoor", sum := "4d84e56aa4a77ab84bc447c3e53cb2e2cf1e6449639ef60c8fd627b296d8b5a9", func := "compass/compasslaw12.VouchCoverSound", spec := "vouchCoverSound", unfollowed := true, recurses := true, named := ["math/bits.deBruijn64tab"], apart := false, laid := [("math/bits.deBruijn64tab", laid_math_bits_deBruijn64tab)] }
def VouchCoverSoundSaid : Prop := vouchCoverSoundRow.holds Tryd.pinned (OpenSpec.ofChange vouchCoverSoundSpec)

/-- ITS FALSE NEIGHBOUR: 'it returns false'. Refute it at one input. -/
def vouchCoverSoundWrong : ChangeSpec := { name := "vouchCoverSound", fn := fun _ => fun
  | [d1, d2, d3] => { results := [.lit (.bool false)], args := [d1, d2, d3] }
  | _ => none }
def VouchCoverSoundWrongFalsely : Prop := vouchCoverSoundRow.holds Tryd.pinned (OpenSpec.ofChange vouchCoverSoundWrong)

/-- 'compasslaw12.VouchBarrierSound': WHATEVER THE INPUT: true; the input reads as it did. -/
def vouchBarrierSoundSpec : ChangeSpec := { name := "vouchBarrierSound", fn := fun _ => fun
  | [d1, d2] => { results := [.lit (.bool true)], args := [d1, d2] }
  | _ => none }
def vouchBarrierSoundRow : OpenClaim := { program := "ytpdppjngbbkbbaadoor", sum := "4d84e56aa4a77ab84bc447c3e53cb2e2cf1e6449639ef60c8fd627b296d8b5a9", func := "compass/compasslaw12.VouchBarrierSound", spec := "vouchBarrierSound", unfollowed := true, recurses := true, named := ["math/bits.deBruijn64tab"], apart := false, laid := [("math/bits.deBruijn64tab", laid_math_bits_deBruijn64tab)] }
def VouchBarrierSoundSaid : Prop := vouchBarrierSoundRow.holds Tryd.pinned (OpenSpec.ofChange vouchBarrierSoundSpec)

/-- ITS FALSE NEIGHBOUR: 'it returns false'. Refute it at one input. -/
def vouchBarrierSoundWrong : ChangeSpec := { name := "vouchBarrierSound", fn := fun _ => fun
  | [d1, d2] => { results := [.lit (.bool false)], args := [d1, d2] }
  | _ => none }
def VouchBarrierSoundWrongFalsely : Prop := vouchBarrierSoundRow.holds Tryd.pinned (OpenSpec.ofChange vouchBarrierSoundWrong)

/-- 'compasslaw12.VouchDualSound': WHATEVER THE INPUT: true; the input reads as it did. -/
def vouchDualSoundSpec : ChangeSpec := { name := "vouchDualSound", fn := fun _ => fun
  | [d1, d2] => { results := [.lit (.bool true)], args := [d1, d2] }
  | _ => none }
def vouchDualSoundRow : OpenClaim := { program := "ytpdppjngbbkbbaadoor", sum := "4d84e56aa4a77ab84bc447c3e53cb2e2cf1e6449639ef60c8fd627b296d8b5a9", func := "compass/compasslaw12.VouchDualSound", spec := "vouchDualSound", unfollowed := true, recurses := true, named := ["math/bits.deBruijn64tab"], apart := false, laid := [("math/bits.deBruijn64tab", laid_math_bits_deBruijn64tab)] }
def VouchDualSoundSaid : Prop := vouchDualSoundRow.holds Tryd.pinned (OpenSpec.ofChange vouchDualSoundSpec)

/-- ITS FALSE NEIGHBOUR: 'it returns false'. Refute it at one input. -/
def vouchDualSoundWrong : ChangeSpec := { name := "vouchDualSound", fn := fun _ => fun
  | [d1, d2] => { results := [.lit (.bool false)], args := [d1, d2] }
  | _ => none }
def VouchDualSoundWrongFalsely : Prop := vouchDualSoundRow.holds Tryd.pinned (OpenSpec.ofChange vouchDualSoundWrong)

/-- 'compasslaw12.VouchManySound': WHATEVER THE INPUT: true; the input reads as it did. -/
def vouchManySoundSpec : ChangeSpec := { name := "vouchManySound", fn := fun _ => fun
  | [d1, d2] => { results := [.lit (.bool true)], args := [d1, d2] }
  | _ => none }
def vouchManySoundRow : OpenClaim := { program := "ytpdppjngbbkbbaadoor", sum := "4d84e56aa4a77ab84bc447c3e53cb2e2cf1e6449639ef60c8fd627b296d8b5a9", func := "compass/compasslaw12.VouchManySound", spec := "vouchManySound", unfollowed := true, recurses := true, named := ["math/bits.deBruijn64tab"], apart := false, laid := [("math/bits.deBruijn64tab", laid_math_bits_deBruijn64tab)] }
def VouchManySoundSaid : Prop := vouchManySoundRow.holds Tryd.pinned (OpenSpec.ofChange vouchManySoundSpec)

/-- ITS FALSE NEIGHBOUR: 'it returns false'. Refute it at one input. -/
def vouchManySoundWrong : ChangeSpec := { name := "vouchManySound", fn := fun _ => fun
  | [d1, d2] => { results := [.lit (.bool false)], args := [d1, d2] }
  | _ => none }
def VouchManySoundWrongFalsely : Prop := vouchManySoundRow.holds Tryd.pinned (OpenSpec.ofChange vouchManySoundWrong)

/-- 'compasslaw12.VouchEvenSound': WHATEVER THE INPUT: true; the input reads as it did. -/
def vouchEvenSoundSpec : ChangeSpec := { name := "vouchEvenSound", fn := fun _ => fun
  | [d1, d2] => { results := [.lit (.bool true)], args := [d1, d2] }
  | _ => none }
def vouchEvenSoundRow : OpenClaim := { program := "ytpdppjngbbkbbaadoor", sum := "4d84e56aa4a77ab84bc447c3e53cb2e2cf1e6449639ef60c8fd627b296d8b5a9", func := "compass/compasslaw12.VouchEvenSound", spec := "vouchEvenSound", unfollowed := true, recurses := true, named := ["math/bits.deBruijn64tab"], apart := false, laid := [("math/bits.deBruijn64tab", laid_math_bits_deBruijn64tab)] }
def VouchEvenSoundSaid : Prop := vouchEvenSoundRow.holds Tryd.pinned (OpenSpec.ofChange vouchEvenSoundSpec)

/-- ITS FALSE NEIGHBOUR: 'it returns false'. Refute it at one input. -/
def vouchEvenSoundWrong : ChangeSpec := { name := "vouchEvenSound", fn := fun _ => fun
  | [d1, d2] => { results := [.lit (.bool false)], args := [d1, d2] }
  | _ => none }
def VouchEvenSoundWrongFalsely : Prop := vouchEvenSoundRow.holds Tryd.pinned (OpenSpec.ofChange vouchEvenSoundWrong)

/-- 'compasslaw12.VouchFull': WHATEVER THE INPUT: true; the input reads as it did. -/
def vouchFullSpec : ChangeSpec := { name := "vouchFull", fn := fun _ => fun
  | [d1, d2] => { results := [.lit (.bool true)], args := [d1, d2] }
  | _ => none }
def vouchFullRow : OpenClaim := { program := "ytpdppjngbbkbbaadoor", sum := "4d84e56aa4a77ab84bc447c3e53cb2e2cf1e6449639ef60c8fd627b296d8b5a9", func := "compass/compasslaw12.VouchFull", spec := "vouchFull", unfollowed := true, recurses := true, named := ["math/bits.deBruijn64tab"], apart := false, laid := [("math/bits.deBruijn64tab", laid_math_bits_deBruijn64tab)] }
def VouchFullSaid : Prop := vouchFullRow.holds Tryd.pinned (OpenSpec.ofChange vouchFullSpec)

/-- ITS FALSE NEIGHBOUR: 'it returns false'. Refute it at one input. -/
def vouchFullWrong : ChangeSpec := { name := "vouchFull", fn := fun _ => fun
  | [d1, d2] => { results := [.lit (.bool false)], args := [d1, d2] }
  | _ => none }
def VouchFullWrongFalsely : Prop := vouchFullRow.holds Tryd.pinned (OpenSpec.ofChange vouchFullWrong)

/-- 'compasslaw12.VouchGadgetFits': WHATEVER THE INPUT: true; the input reads as it did. -/
def vouchGadgetFitsSpec : ChangeSpec := { name := "vouchGadgetFits", fn := fun _ => fun
  | [d1, d2] => { results := [.lit (.bool true)], args := [d1, d2] }
  | _ => none }
def vouchGadgetFitsRow : OpenClaim := { program := "ytpdppjngbbkbbaadoor", sum := "4d84e56aa4a77ab84bc447c3e53cb2e2cf1e6449639ef60c8fd627b296d8b5a9", func := "compass/compasslaw12.VouchGadgetFits", spec := "vouchGadgetFits", unfollowed := true, recurses := true, named := ["math/bits.deBruijn64tab"], apart := false, laid := [("math/bits.deBruijn64tab", laid_math_bits_deBruijn64tab)] }
def VouchGadgetFitsSaid : Prop := vouchGadgetFitsRow.holds Tryd.pinned (OpenSpec.ofChange vouchGadgetFitsSpec)

/-- ITS FALSE NEIGHBOUR: 'it returns false'. Refute it at one input. -/
def vouchGadgetFitsWrong : ChangeSpec := { name := "vouchGadgetFits", fn := fun _ => fun
  | [d1, d2] => { results := [.lit (.bool false)], args := [d1, d2] }
  | _ => none }
def VouchGadgetFitsWrongFalsely : Prop := vouchGadgetFitsRow.holds Tryd.pinned (OpenSpec.ofChange vouchGadgetFitsWrong)

/-- 'compasslaw12.VouchRests': WHATEVER THE INPUT: true; the input reads as it did. -/
def vouchRestsSpec : ChangeSpec := { name := "vouchRests", fn := fun _ => fun
  | [d1, d2] => { results := [.lit (.bool true)], args := [d1, d2] }
  | _ => none }
def vouchRestsRow : OpenClaim := { program := "ytpdppjngbbkbbaadoor", sum := "4d84e56aa4a77ab84bc447c3e53cb2e2cf1e6449639ef60c8fd627b296d8b5a9", func := "compass/compasslaw12.VouchRests", spec := "vouchRests", unfollowed := true, recurses := true, named := ["math/bits.deBruijn64tab"], apart := false, laid := [("math/bits.deBruijn64tab", laid_math_bits_deBruijn64tab)] }
def VouchRestsSaid : Prop := vouchRestsRow.holds Tryd.pinned (OpenSpec.ofChange vouchRestsSpec)

/-- ITS FALSE NEIGHBOUR: 'it returns false'. Refute it at one input. -/
def vouchRestsWrong : ChangeSpec := { name := "vouchRests", fn := fun _ => fun
  | [d1, d2] => { results := [.lit (.bool false)], args := [d1, d2] }
  | _ => none }
def VouchRestsWrongFalsely : Prop := vouchRestsRow.holds Tryd.pinned (OpenSpec.ofChange vouchRestsWrong)

/- THE SECOND FORM. 'bulk': how many values and letters a reading holds, each counted each time it is reached (what is shared counts as often as it is met; a slice's spare places count too). A statement '..UptoSaid' is the law's where the arguments, and the package variables that the reading takes, are together of bulk at most 1048576: NARROWER than '..Said'. Prove '..Said' where nothing that the law and all that it calls make is longer than what came in: it says more and counts as full. Else prove '..UptoSaid'. A law counts once. -/
mutual
def uptoBulk {H : Type} : DataW H → Nat
  | .lit (.string bytes) => bytes.length + 1
  | .lit _ => 1
  | .nil => 1
  | .ptr d => uptoBulk d + 1
  | .slice elems spare => uptoBulkAll elems + uptoBulkAll spare + 1
  | .agg parts => uptoBulkAll parts + 1
  | .iface _ d => uptoBulk d + 1
  | .map entries => uptoBulkEntries entries + 1
  | .held _ => 1
def uptoBulkAll {H : Type} : List (DataW H) → Nat
  | [] => 0
  | d :: r => uptoBulk d + uptoBulkAll r
def uptoBulkEntries {H : Type} : List (Lit × DataW H) → Nat
  | [] => 0
  | x :: r => uptoBulkEntry x + uptoBulkEntries r
def uptoBulkEntry {H : Type} : Lit × DataW H → Nat
  | (.string bytes, d) => bytes.length + uptoBulk d + 1
  | (_, d) => uptoBulk d + 1
 end
def uptoSmall : (H : Type) → List (DataW H) → Bool := fun _ ds => decide (uptoBulkAll ds ≤ 1048576)
def OpenSpec.upto (s : _root_.Go.ChangeSpec) : _root_.Go.OpenSpec := { _root_.Go.OpenSpec.ofChange s with cond := some uptoSmall }

/-- 'compasslaw12.VouchCovers', WHERE WHAT IT READS IS OF BULK AT MOST 1048576: true; the input reads as it did. -/
def vouchCoversUptoRow : OpenClaim := { program := "ytpdppjngbbkbbaadoor", sum := "4d84e56aa4a77ab84bc447c3e53cb2e2cf1e6449639ef60c8fd627b296d8b5a9", func := "compass/compasslaw12.VouchCovers", spec := "vouchCovers", unfollowed := true, recurses := true, named := ["math/bits.deBruijn64tab"], apart := false, laid := [("math/bits.deBruijn64tab", laid_math_bits_deBruijn64tab)], narrowed := true }
def VouchCoversUptoSaid : Prop := vouchCoversUptoRow.holds Tryd.pinned (OpenSpec.upto vouchCoversSpec)

/-- 'compasslaw12.VouchBarriers', WHERE WHAT IT READS IS OF BULK AT MOST 1048576: true; the input reads as it did. -/
def vouchBarriersUptoRow : OpenClaim := { program := "ytpdppjngbbkbbaadoor", sum := "4d84e56aa4a77ab84bc447c3e53cb2e2cf1e6449639ef60c8fd627b296d8b5a9", func := "compass/compasslaw12.VouchBarriers", spec := "vouchBarriers", unfollowed := true, recurses := true, named := ["math/bits.deBruijn64tab"], apart := false, laid := [("math/bits.deBruijn64tab", laid_math_bits_deBruijn64tab)], narrowed := true }
def VouchBarriersUptoSaid : Prop := vouchBarriersUptoRow.holds Tryd.pinned (OpenSpec.upto vouchBarriersSpec)

/-- 'compasslaw12.VouchDuals', WHERE WHAT IT READS IS OF BULK AT MOST 1048576: true; the input reads as it did. -/
def vouchDualsUptoRow : OpenClaim := { program := "ytpdppjngbbkbbaadoor", sum := "4d84e56aa4a77ab84bc447c3e53cb2e2cf1e6449639ef60c8fd627b296d8b5a9", func := "compass/compasslaw12.VouchDuals", spec := "vouchDuals", unfollowed := true, recurses := true, named := ["math/bits.deBruijn64tab"], apart := false, laid := [("math/bits.deBruijn64tab", laid_math_bits_deBruijn64tab)], narrowed := true }
def VouchDualsUptoSaid : Prop := vouchDualsUptoRow.holds Tryd.pinned (OpenSpec.upto vouchDualsSpec)

/-- 'compasslaw12.VouchGadgets', WHERE WHAT IT READS IS OF BULK AT MOST 1048576: true; the input reads as it did. -/
def vouchGadgetsUptoRow : OpenClaim := { program := "ytpdppjngbbkbbaadoor", sum := "4d84e56aa4a77ab84bc447c3e53cb2e2cf1e6449639ef60c8fd627b296d8b5a9", func := "compass/compasslaw12.VouchGadgets", spec := "vouchGadgets", unfollowed := true, recurses := true, named := ["math/bits.deBruijn64tab"], apart := false, laid := [("math/bits.deBruijn64tab", laid_math_bits_deBruijn64tab)], narrowed := true }
def VouchGadgetsUptoSaid : Prop := vouchGadgetsUptoRow.holds Tryd.pinned (OpenSpec.upto vouchGadgetsSpec)

/-- 'compasslaw12.VouchEvens', WHERE WHAT IT READS IS OF BULK AT MOST 1048576: true; the input reads as it did. -/
def vouchEvensUptoRow : OpenClaim := { program := "ytpdppjngbbkbbaadoor", sum := "4d84e56aa4a77ab84bc447c3e53cb2e2cf1e6449639ef60c8fd627b296d8b5a9", func := "compass/compasslaw12.VouchEvens", spec := "vouchEvens", unfollowed := true, recurses := true, named := ["math/bits.deBruijn64tab"], apart := false, laid := [("math/bits.deBruijn64tab", laid_math_bits_deBruijn64tab)], narrowed := true }
def VouchEvensUptoSaid : Prop := vouchEvensUptoRow.holds Tryd.pinned (OpenSpec.upto vouchEvensSpec)

/-- 'compasslaw12.VouchCoverSound', WHERE WHAT IT READS IS OF BULK AT MOST 1048576: true; the input reads as it did. -/
def vouchCoverSoundUptoRow : OpenClaim := { program := "ytpdppjngbbkbbaadoor", sum := "4d84e56aa4a77ab84bc447c3e53cb2e2cf1e6449639ef60c8fd627b296d8b5a9", func := "compass/compasslaw12.VouchCoverSound", spec := "vouchCoverSound", unfollowed := true, recurses := true, named := ["math/bits.deBruijn64tab"], apart := false, laid := [("math/bits.deBruijn64tab", laid_math_bits_deBruijn64tab)], narrowed := true }
def VouchCoverSoundUptoSaid : Prop := vouchCoverSoundUptoRow.holds Tryd.pinned (OpenSpec.upto vouchCoverSoundSpec)

/-- 'compasslaw12.VouchBarrierSound', WHERE WHAT IT READS IS OF BULK AT MOST 1048576: true; the input reads as it did. -/
def vouchBarrierSoundUptoRow : OpenClaim := { program := "ytpdppjngbbkbbaadoor", sum := "4d84e56aa4a77ab84bc447c3e53cb2e2cf1e6449639ef60c8fd627b296d8b5a9", func := "compass/compasslaw12.VouchBarrierSound", spec := "vouchBarrierSound", unfollowed := true, recurses := true, named := ["math/bits.deBruijn64tab"], apart := false, laid := [("math/bits.deBruijn64tab", laid_math_bits_deBruijn64tab)], narrowed := true }
def VouchBarrierSoundUptoSaid : Prop := vouchBarrierSoundUptoRow.holds Tryd.pinned (OpenSpec.upto vouchBarrierSoundSpec)

/-- 'compasslaw12.VouchDualSound', WHERE WHAT IT READS IS OF BULK AT MOST 1048576: true; the input reads as it did. -/
def vouchDualSoundUptoRow : OpenClaim := { program := "ytpdppjngbbkbbaadoor", sum := "4d84e56aa4a77ab84bc447c3e53cb2e2cf1e6449639ef60c8fd627b296d8b5a9", func := "compass/compasslaw12.VouchDualSound", spec := "vouchDualSound", unfollowed := true, recurses := true, named := ["math/bits.deBruijn64tab"], apart := false, laid := [("math/bits.deBruijn64tab", laid_math_bits_deBruijn64tab)], narrowed := true }
def VouchDualSoundUptoSaid : Prop := vouchDualSoundUptoRow.holds Tryd.pinned (OpenSpec.upto vouchDualSoundSpec)

/-- 'compasslaw12.VouchManySound', WHERE WHAT IT READS IS OF BULK AT MOST 1048576: true; the input reads as it did. -/
def vouchManySoundUptoRow : OpenClaim := { program := "ytpdppjngbbkbbaadoor", sum := "4d84e56aa4a77ab84bc447c3e53cb2e2cf1e6449639ef60c8fd627b296d8b5a9", func := "compass/compasslaw12.VouchManySound", spec := "vouchManySound", unfollowed := true, recurses := true, named := ["math/bits.deBruijn64tab"], apart := false, laid := [("math/bits.deBruijn64tab", laid_math_bits_deBruijn64tab)], narrowed := true }
def VouchManySoundUptoSaid : Prop := vouchManySoundUptoRow.holds Tryd.pinned (OpenSpec.upto vouchManySoundSpec)

/-- 'compasslaw12.VouchEvenSound', WHERE WHAT IT READS IS OF BULK AT MOST 1048576: true; the input reads as it did. -/
def vouchEvenSoundUptoRow : OpenClaim := { program := "ytpdppjngbbkbbaadoor", sum := "4d84e56aa4a77ab84bc447c3e53cb2e2cf1e6449639ef60c8fd627b296d8b5a9", func := "compass/compasslaw12.VouchEvenSound", spec := "vouchEvenSound", unfollowed := true, recurses := true, named := ["math/bits.deBruijn64tab"], apart := false, laid := [("math/bits.deBruijn64tab", laid_math_bits_deBruijn64tab)], narrowed := true }
def VouchEvenSoundUptoSaid : Prop := vouchEvenSoundUptoRow.holds Tryd.pinned (OpenSpec.upto vouchEvenSoundSpec)

/-- 'compasslaw12.VouchFull', WHERE WHAT IT READS IS OF BULK AT MOST 1048576: true; the input reads as it did. -/
def vouchFullUptoRow : OpenClaim := { program := "ytpdppjngbbkbbaadoor", sum := "4d84e56aa4a77ab84bc447c3e53cb2e2cf1e6449639ef60c8fd627b296d8b5a9", func := "compass/compasslaw12.VouchFull", spec := "vouchFull", unfollowed := true, recurses := true, named := ["math/bits.deBruijn64tab"], apart := false, laid := [("math/bits.deBruijn64tab", laid_math_bits_deBruijn64tab)], narrowed := true }
def VouchFullUptoSaid : Prop := vouchFullUptoRow.holds Tryd.pinned (OpenSpec.upto vouchFullSpec)

/-- 'compasslaw12.VouchGadgetFits', WHERE WHAT IT READS IS OF BULK AT MOST 1048576: true; the input reads as it did. -/
def vouchGadgetFitsUptoRow : OpenClaim := { program := "ytpdppjngbbkbbaadoor", sum := "4d84e56aa4a77ab84bc447c3e53cb2e2cf1e6449639ef60c8fd627b296d8b5a9", func := "compass/compasslaw12.VouchGadgetFits", spec := "vouchGadgetFits", unfollowed := true, recurses := true, named := ["math/bits.deBruijn64tab"], apart := false, laid := [("math/bits.deBruijn64tab", laid_math_bits_deBruijn64tab)], narrowed := true }
def VouchGadgetFitsUptoSaid : Prop := vouchGadgetFitsUptoRow.holds Tryd.pinned (OpenSpec.upto vouchGadgetFitsSpec)

/-- 'compasslaw12.VouchRests', WHERE WHAT IT READS IS OF BULK AT MOST 1048576: true; the input reads as it did. -/
def vouchRestsUptoRow : OpenClaim := { program := "ytpdppjngbbkbbaadoor", sum := "4d84e56aa4a77ab84bc447c3e53cb2e2cf1e6449639ef60c8fd627b296d8b5a9", func := "compass/compasslaw12.VouchRests", spec := "vouchRests", unfollowed := true, recurses := true, named := ["math/bits.deBruijn64tab"], apart := false, laid := [("math/bits.deBruijn64tab", laid_math_bits_deBruijn64tab)], narrowed := true }
def VouchRestsUptoSaid : Prop := vouchRestsUptoRow.holds Tryd.pinned (OpenSpec.upto vouchRestsSpec)

end Rows
end Go.Proofs.YtpdppjngbbkbbaaDoor

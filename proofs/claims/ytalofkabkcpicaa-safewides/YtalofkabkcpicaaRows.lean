/-
  No cell of these rows narrows 'for every input' (looked for: loops, veiled, ifaces, maps, wideKeys, modest, calm, conditions, laid).
  DERIVED. THE GIVEN ROWS OF THIS SEAT. 6 by the template 'for every input the law returns true; each argument reads behind the call as it read before'; 0 by the template 'total and deterministic' (their statements: YtalofkabkcpicaaTotals.lean).
  GIVEN WITH THE SEED: the statements are not yours to turn. If you find one false, say at which input.
  Laid BY PROGRAM, IN A SANDBOX (cutbox-rows.mjs): the forced cells as the released guide's own fill.sh prints them over the translation 72f043e9ef3fbcfc… (all of the seat's roots in one cut). By AI agents, Wed Nov 11 2026. No macro, syntax, notation, axiom, sorry.
-/
import Derived.Test.YtalofkabkcpicaaChecked
import GoSem.Claim
import GoSem.ClaimJoined
import GoSem.ClaimMapViews
import Derived.JoinedTies
import Derived.KernelRfl
namespace Go.Proofs.Ytalofkabkcpicaa
/- THE CELL 'sum', in the pinned program and in every row, IS THE sha256 OF THE DUMP (.gsa) THAT YtalofkabkcpicaaProg.lean LOADS. Nothing in Lean hashes anything: it is a label: what it is worth is what the hold of that sum in a sandbox is worth. -/
noncomputable def Try.pinned : Pinned := { name := "ytalofkabkcpicaa", sum := "72f043e9ef3fbcfc388043d41a3a85bdd49aecf16d21b1095f164627116fb39d", checked := Try.checked }
namespace Rows
def none {H : Type} : Left H := { results := [], args := [] }

/-- 'compasslaw01.SafeAdds': WHATEVER THE INPUT: true; the input reads as it did. -/
def safeAddsSpec : ChangeSpec := { name := "safeAdds", fn := fun _ => fun
  | [d1, d2] => { results := [.lit (.bool true)], args := [d1, d2] }
  | _ => none }
def safeAddsRow : OpenClaim := { program := "ytalofkabkcpicaa", sum := "72f043e9ef3fbcfc388043d41a3a85bdd49aecf16d21b1095f164627116fb39d", func := "compass/compasslaw01.SafeAdds", spec := "safeAdds", inPlace := ["math/bits.Add64"], unfollowed := true, recurses := true, apart := false }
def SafeAddsSaid : Prop := safeAddsRow.holds Try.pinned (OpenSpec.ofChange safeAddsSpec)

/-- ITS FALSE NEIGHBOUR: 'it returns false'. Refute it at one input. -/
def safeAddsWrong : ChangeSpec := { name := "safeAdds", fn := fun _ => fun
  | [d1, d2] => { results := [.lit (.bool false)], args := [d1, d2] }
  | _ => none }
def SafeAddsWrongFalsely : Prop := safeAddsRow.holds Try.pinned (OpenSpec.ofChange safeAddsWrong)

/-- 'compasslaw01.SafeDivides': WHATEVER THE INPUT: true; the input reads as it did. -/
def safeDividesSpec : ChangeSpec := { name := "safeDivides", fn := fun _ => fun
  | [d1, d2] => { results := [.lit (.bool true)], args := [d1, d2] }
  | _ => none }
def safeDividesRow : OpenClaim := { program := "ytalofkabkcpicaa", sum := "72f043e9ef3fbcfc388043d41a3a85bdd49aecf16d21b1095f164627116fb39d", func := "compass/compasslaw01.SafeDivides", spec := "safeDivides", apart := false }
def SafeDividesSaid : Prop := safeDividesRow.holds Try.pinned (OpenSpec.ofChange safeDividesSpec)

/-- ITS FALSE NEIGHBOUR: 'it returns false'. Refute it at one input. -/
def safeDividesWrong : ChangeSpec := { name := "safeDivides", fn := fun _ => fun
  | [d1, d2] => { results := [.lit (.bool false)], args := [d1, d2] }
  | _ => none }
def SafeDividesWrongFalsely : Prop := safeDividesRow.holds Try.pinned (OpenSpec.ofChange safeDividesWrong)

/-- 'compasslaw01.SafeWides': WHATEVER THE INPUT: true; the input reads as it did. -/
def safeWidesSpec : ChangeSpec := { name := "safeWides", fn := fun _ => fun
  | [d1, d2, d3] => { results := [.lit (.bool true)], args := [d1, d2, d3] }
  | _ => none }
def safeWidesRow : OpenClaim := { program := "ytalofkabkcpicaa", sum := "72f043e9ef3fbcfc388043d41a3a85bdd49aecf16d21b1095f164627116fb39d", func := "compass/compasslaw01.SafeWides", spec := "safeWides", inPlace := ["math/bits.Add64"], unfollowed := true, recurses := true, apart := false }
def SafeWidesSaid : Prop := safeWidesRow.holds Try.pinned (OpenSpec.ofChange safeWidesSpec)

/-- ITS FALSE NEIGHBOUR: 'it returns false'. Refute it at one input. -/
def safeWidesWrong : ChangeSpec := { name := "safeWides", fn := fun _ => fun
  | [d1, d2, d3] => { results := [.lit (.bool false)], args := [d1, d2, d3] }
  | _ => none }
def SafeWidesWrongFalsely : Prop := safeWidesRow.holds Try.pinned (OpenSpec.ofChange safeWidesWrong)

/-- 'compasslaw01.SafeSums': WHATEVER THE INPUT: true; the input reads as it did. -/
def safeSumsSpec : ChangeSpec := { name := "safeSums", fn := fun _ => fun
  | [d1, d2] => { results := [.lit (.bool true)], args := [d1, d2] }
  | _ => none }
def safeSumsRow : OpenClaim := { program := "ytalofkabkcpicaa", sum := "72f043e9ef3fbcfc388043d41a3a85bdd49aecf16d21b1095f164627116fb39d", func := "compass/compasslaw01.SafeSums", spec := "safeSums", inPlace := ["math/bits.Add64"], unfollowed := true, recurses := true, apart := false }
def SafeSumsSaid : Prop := safeSumsRow.holds Try.pinned (OpenSpec.ofChange safeSumsSpec)

/-- ITS FALSE NEIGHBOUR: 'it returns false'. Refute it at one input. -/
def safeSumsWrong : ChangeSpec := { name := "safeSums", fn := fun _ => fun
  | [d1, d2] => { results := [.lit (.bool false)], args := [d1, d2] }
  | _ => none }
def SafeSumsWrongFalsely : Prop := safeSumsRow.holds Try.pinned (OpenSpec.ofChange safeSumsWrong)

/-- 'compasslaw01.SafeRatios': WHATEVER THE INPUT: true; the input reads as it did. -/
def safeRatiosSpec : ChangeSpec := { name := "safeRatios", fn := fun _ => fun
  | [d1, d2] => { results := [.lit (.bool true)], args := [d1, d2] }
  | _ => none }
def safeRatiosRow : OpenClaim := { program := "ytalofkabkcpicaa", sum := "72f043e9ef3fbcfc388043d41a3a85bdd49aecf16d21b1095f164627116fb39d", func := "compass/compasslaw01.SafeRatios", spec := "safeRatios", apart := false }
def SafeRatiosSaid : Prop := safeRatiosRow.holds Try.pinned (OpenSpec.ofChange safeRatiosSpec)

/-- ITS FALSE NEIGHBOUR: 'it returns false'. Refute it at one input. -/
def safeRatiosWrong : ChangeSpec := { name := "safeRatios", fn := fun _ => fun
  | [d1, d2] => { results := [.lit (.bool false)], args := [d1, d2] }
  | _ => none }
def SafeRatiosWrongFalsely : Prop := safeRatiosRow.holds Try.pinned (OpenSpec.ofChange safeRatiosWrong)

/-- 'compasslaw01.SafeGcds': WHATEVER THE INPUT: true; the input reads as it did. -/
def safeGcdsSpec : ChangeSpec := { name := "safeGcds", fn := fun _ => fun
  | [d1, d2, d3] => { results := [.lit (.bool true)], args := [d1, d2, d3] }
  | _ => none }
def safeGcdsRow : OpenClaim := { program := "ytalofkabkcpicaa", sum := "72f043e9ef3fbcfc388043d41a3a85bdd49aecf16d21b1095f164627116fb39d", func := "compass/compasslaw01.SafeGcds", spec := "safeGcds", apart := false }
def SafeGcdsSaid : Prop := safeGcdsRow.holds Try.pinned (OpenSpec.ofChange safeGcdsSpec)

/-- ITS FALSE NEIGHBOUR: 'it returns false'. Refute it at one input. -/
def safeGcdsWrong : ChangeSpec := { name := "safeGcds", fn := fun _ => fun
  | [d1, d2, d3] => { results := [.lit (.bool false)], args := [d1, d2, d3] }
  | _ => none }
def SafeGcdsWrongFalsely : Prop := safeGcdsRow.holds Try.pinned (OpenSpec.ofChange safeGcdsWrong)

/- THE SECOND FORM. 'bulk': how many values and letters a reading holds, each counted each time it is reached (what is shared counts as often as it is met; a slice's spare places count too). A statement '..UptoSaid' is the law's where the arguments, and the package variables that the reading takes, are together of bulk at most 1048576: NARROWER than '..Said'. Prove '..Said' where nothing that the law and all that it calls make is longer than what came in: it says more and counts as full. Else prove '..UptoSaid'. A law counts once. -/
mutual
def uptoBulk {H : Type} : DataW H → Nat
  | .lit (.string bytes) => bytes.length + 1
  | .lit _ => 1
  | .nil => 1
  | .ptr d => uptoBulk d + 1
  | .slice elems spare => uptoBulkAll elems + uptoBulkAll spare + 1
  | .agg parts => uptoBulkAll parts + 1
  | .iface _ d => uptoBulk d + 1
  | .map entries => uptoBulkEntries entries + 1
  | .held _ => 1
def uptoBulkAll {H : Type} : List (DataW H) → Nat
  | [] => 0
  | d :: r => uptoBulk d + uptoBulkAll r
def uptoBulkEntries {H : Type} : List (Lit × DataW H) → Nat
  | [] => 0
  | x :: r => uptoBulkEntry x + uptoBulkEntries r
def uptoBulkEntry {H : Type} : Lit × DataW H → Nat
  | (.string bytes, d) => bytes.length + uptoBulk d + 1
  | (_, d) => uptoBulk d + 1
 end
def uptoSmall : (H : Type) → List (DataW H) → Bool := fun _ ds => decide (uptoBulkAll ds ≤ 1048576)
def OpenSpec.upto (s : _root_.Go.ChangeSpec) : _root_.Go.OpenSpec := { _root_.Go.OpenSpec.ofChange s with cond := some uptoSmall }

/-- 'compasslaw01.SafeAdds', WHERE WHAT IT READS IS OF BULK AT MOST 1048576: true; the input reads as it did. -/
def safeAddsUptoRow : OpenClaim := { program := "ytalofkabkcpicaa", sum := "72f043e9ef3fbcfc388043d41a3a85bdd49aecf16d21b1095f164627116fb39d", func := "compass/compasslaw01.SafeAdds", spec := "safeAdds", inPlace := ["math/bits.Add64"], unfollowed := true, recurses := true, apart := false, narrowed := true }
def SafeAddsUptoSaid : Prop := safeAddsUptoRow.holds Try.pinned (OpenSpec.upto safeAddsSpec)

/-- 'compasslaw01.SafeDivides', WHERE WHAT IT READS IS OF BULK AT MOST 1048576: true; the input reads as it did. -/
def safeDividesUptoRow : OpenClaim := { program := "ytalofkabkcpicaa", sum := "72f043e9ef3fbcfc388043d41a3a85bdd49aecf16d21b1095f164627116fb39d", func := "compass/compasslaw01.SafeDivides", spec := "safeDivides", apart := false, narrowed := true }
def SafeDividesUptoSaid : Prop := safeDividesUptoRow.holds Try.pinned (OpenSpec.upto safeDividesSpec)

/-- 'compasslaw01.SafeWides', WHERE WHAT IT READS IS OF BULK AT MOST 1048576: true; the input reads as it did. -/
def safeWidesUptoRow : OpenClaim := { program := "ytalofkabkcpicaa", sum := "72f043e9ef3fbcfc388043d41a3a85bdd49aecf16d21b1095f164627116fb39d", func := "compass/compasslaw01.SafeWides", spec := "safeWides", inPlace := ["math/bits.Add64"], unfollowed := true, recurses := true, apart := false, narrowed := true }
def SafeWidesUptoSaid : Prop := safeWidesUptoRow.holds Try.pinned (OpenSpec.upto safeWidesSpec)

/-- 'compasslaw01.SafeSums', WHERE WHAT IT READS IS OF BULK AT MOST 1048576: true; the input reads as it did. -/
def safeSumsUptoRow : OpenClaim := { program := "ytalofkabkcpicaa", sum := "72f043e9ef3fbcfc388043d41a3a85bdd49aecf16d21b1095f164627116fb39d", func := "compass/compasslaw01.SafeSums", spec := "safeSums", inPlace := ["math/bits.Add64"], unfollowed := true, recurses := true, apart := false, narrowed := true }
def SafeSumsUptoSaid : Prop := safeSumsUptoRow.holds Try.pinned (OpenSpec.upto safeSumsSpec)

/-- 'compasslaw01.SafeRatios', WHERE WHAT IT READS IS OF BULK AT MOST 1048576: true; the input reads as it did. -/
def safeRatiosUptoRow : OpenClaim := { program := "ytalofkabkcpicaa", sum := "72f043e9ef3fbcfc388043d41a3a85bdd49aecf16d21b1095f164627116fb39d", func := "compass/compasslaw01.SafeRatios", spec := "safeRatios", apart := false, narrowed := true }
def SafeRatiosUptoSaid : Prop := safeRatiosUptoRow.holds Try.pinned (OpenSpec.upto safeRatiosSpec)

/-- 'compasslaw01.SafeGcds', WHERE WHAT IT READS IS OF BULK AT MOST 1048576: true; the input reads as it did. -/
def safeGcdsUptoRow : OpenClaim := { program := "ytalofkabkcpicaa", sum := "72f043e9ef3fbcfc388043d41a3a85bdd49aecf16d21b1095f164627116fb39d", func := "compass/compasslaw01.SafeGcds", spec := "safeGcds", apart := false, narrowed := true }
def SafeGcdsUptoSaid : Prop := safeGcdsUptoRow.holds Try.pinned (OpenSpec.upto safeGcdsSpec)

end Rows
end Go.Proofs.Ytalofkabkcpicaa

/-
  DERIVED. GIVEN WITH THE SEED: THE CARDS: each row of YtpdppjngbbkbbaaDoorRows.lean that lists a variable, with what it lists TIED to the program's text (the seventh form; the later family's looks); each row that meets fmt, with fmt's text TOLD by the authors' own Lean function (tested against real Go, not proved from fmt's source: count such statements apart). THE CARD IS WHAT COUNTS. Prove the row's statement (the work); the ties are given (YtpdppjngbbkbbaaDoorTie.lean); close each card by the builder's one call (the guide's Derived/Test/ToyasCard.lean, 'card_holds'). Laid BY PROGRAM, IN A SANDBOX (cutbox-door.mjs). By AI agents, Wed Nov 11 2026. No macro, syntax, notation, axiom, sorry.
-/
import Derived.Test.YtpdppjngbbkbbaaDoorRows
import GoSem.ClaimSeven
namespace Go.Proofs.YtpdppjngbbkbbaaDoor
namespace Rows

/-- THE TIED CARD OF 'compasslaw12.VouchCovers'. -/
def vouchCoversCard : Claim7 := { stood := { row := vouchCoversRow, standIns := [], harness := (true, "1ee77a617945d33e3d75f6f835dbd8aff6fac7be2c3d7c0de74290fe8fe1eaec"), looks := true }, kinds := [], alts := [], laidByText := true, laidKinds := [.data], laidTests := true, laidLooks := .later }
def VouchCoversCardSaid : Prop := Claim7.holds Tryd.pinned (.plain (OpenSpec.ofChange vouchCoversSpec)) vouchCoversCard

/-- THE TIED CARD OF 'compasslaw12.VouchBarriers'. -/
def vouchBarriersCard : Claim7 := { stood := { row := vouchBarriersRow, standIns := [], harness := (true, "1ee77a617945d33e3d75f6f835dbd8aff6fac7be2c3d7c0de74290fe8fe1eaec"), looks := true }, kinds := [], alts := [], laidByText := true, laidKinds := [.data], laidTests := true, laidLooks := .later }
def VouchBarriersCardSaid : Prop := Claim7.holds Tryd.pinned (.plain (OpenSpec.ofChange vouchBarriersSpec)) vouchBarriersCard

/-- THE TIED CARD OF 'compasslaw12.VouchDuals'. -/
def vouchDualsCard : Claim7 := { stood := { row := vouchDualsRow, standIns := [], harness := (true, "1ee77a617945d33e3d75f6f835dbd8aff6fac7be2c3d7c0de74290fe8fe1eaec"), looks := true }, kinds := [], alts := [], laidByText := true, laidKinds := [.data], laidTests := true, laidLooks := .later }
def VouchDualsCardSaid : Prop := Claim7.holds Tryd.pinned (.plain (OpenSpec.ofChange vouchDualsSpec)) vouchDualsCard

/-- THE TIED CARD OF 'compasslaw12.VouchGadgets'. -/
def vouchGadgetsCard : Claim7 := { stood := { row := vouchGadgetsRow, standIns := [], harness := (true, "1ee77a617945d33e3d75f6f835dbd8aff6fac7be2c3d7c0de74290fe8fe1eaec"), looks := true }, kinds := [], alts := [], laidByText := true, laidKinds := [.data], laidTests := true, laidLooks := .later }
def VouchGadgetsCardSaid : Prop := Claim7.holds Tryd.pinned (.plain (OpenSpec.ofChange vouchGadgetsSpec)) vouchGadgetsCard

/-- THE TIED CARD OF 'compasslaw12.VouchEvens'. -/
def vouchEvensCard : Claim7 := { stood := { row := vouchEvensRow, standIns := [], harness := (true, "1ee77a617945d33e3d75f6f835dbd8aff6fac7be2c3d7c0de74290fe8fe1eaec"), looks := true }, kinds := [], alts := [], laidByText := true, laidKinds := [.data], laidTests := true, laidLooks := .later }
def VouchEvensCardSaid : Prop := Claim7.holds Tryd.pinned (.plain (OpenSpec.ofChange vouchEvensSpec)) vouchEvensCard

/-- THE TIED CARD OF 'compasslaw12.VouchCoverSound'. -/
def vouchCoverSoundCard : Claim7 := { stood := { row := vouchCoverSoundRow, standIns := [], harness := (true, "1ee77a617945d33e3d75f6f835dbd8aff6fac7be2c3d7c0de74290fe8fe1eaec"), looks := true }, kinds := [], alts := [], laidByText := true, laidKinds := [.data], laidTests := true, laidLooks := .later }
def VouchCoverSoundCardSaid : Prop := Claim7.holds Tryd.pinned (.plain (OpenSpec.ofChange vouchCoverSoundSpec)) vouchCoverSoundCard

/-- THE TIED CARD OF 'compasslaw12.VouchBarrierSound'. -/
def vouchBarrierSoundCard : Claim7 := { stood := { row := vouchBarrierSoundRow, standIns := [], harness := (true, "1ee77a617945d33e3d75f6f835dbd8aff6fac7be2c3d7c0de74290fe8fe1eaec"), looks := true }, kinds := [], alts := [], laidByText := true, laidKinds := [.data], laidTests := true, laidLooks := .later }
def VouchBarrierSoundCardSaid : Prop := Claim7.holds Tryd.pinned (.plain (OpenSpec.ofChange vouchBarrierSoundSpec)) vouchBarrierSoundCard

/-- THE TIED CARD OF 'compasslaw12.VouchDualSound'. -/
def vouchDualSoundCard : Claim7 := { stood := { row := vouchDualSoundRow, standIns := [], harness := (true, "1ee77a617945d33e3d75f6f835dbd8aff6fac7be2c3d7c0de74290fe8fe1eaec"), looks := true }, kinds := [], alts := [], laidByText := true, laidKinds := [.data], laidTests := true, laidLooks := .later }
def VouchDualSoundCardSaid : Prop := Claim7.holds Tryd.pinned (.plain (OpenSpec.ofChange vouchDualSoundSpec)) vouchDualSoundCard

/-- THE TIED CARD OF 'compasslaw12.VouchManySound'. -/
def vouchManySoundCard : Claim7 := { stood := { row := vouchManySoundRow, standIns := [], harness := (true, "1ee77a617945d33e3d75f6f835dbd8aff6fac7be2c3d7c0de74290fe8fe1eaec"), looks := true }, kinds := [], alts := [], laidByText := true, laidKinds := [.data], laidTests := true, laidLooks := .later }
def VouchManySoundCardSaid : Prop := Claim7.holds Tryd.pinned (.plain (OpenSpec.ofChange vouchManySoundSpec)) vouchManySoundCard

/-- THE TIED CARD OF 'compasslaw12.VouchEvenSound'. -/
def vouchEvenSoundCard : Claim7 := { stood := { row := vouchEvenSoundRow, standIns := [], harness := (true, "1ee77a617945d33e3d75f6f835dbd8aff6fac7be2c3d7c0de74290fe8fe1eaec"), looks := true }, kinds := [], alts := [], laidByText := true, laidKinds := [.data], laidTests := true, laidLooks := .later }
def VouchEvenSoundCardSaid : Prop := Claim7.holds Tryd.pinned (.plain (OpenSpec.ofChange vouchEvenSoundSpec)) vouchEvenSoundCard

/-- THE TIED CARD OF 'compasslaw12.VouchFull'. -/
def vouchFullCard : Claim7 := { stood := { row := vouchFullRow, standIns := [], harness := (true, "1ee77a617945d33e3d75f6f835dbd8aff6fac7be2c3d7c0de74290fe8fe1eaec"), looks := true }, kinds := [], alts := [], laidByText := true, laidKinds := [.data], laidTests := true, laidLooks := .later }
def VouchFullCardSaid : Prop := Claim7.holds Tryd.pinned (.plain (OpenSpec.ofChange vouchFullSpec)) vouchFullCard

/-- THE TIED CARD OF 'compasslaw12.VouchGadgetFits'. -/
def vouchGadgetFitsCard : Claim7 := { stood := { row := vouchGadgetFitsRow, standIns := [], harness := (true, "1ee77a617945d33e3d75f6f835dbd8aff6fac7be2c3d7c0de74290fe8fe1eaec"), looks := true }, kinds := [], alts := [], laidByText := true, laidKinds := [.data], laidTests := true, laidLooks := .later }
def VouchGadgetFitsCardSaid : Prop := Claim7.holds Tryd.pinned (.plain (OpenSpec.ofChange vouchGadgetFitsSpec)) vouchGadgetFitsCard

/-- THE TIED CARD OF 'compasslaw12.VouchRests'. -/
def vouchRestsCard : Claim7 := { stood := { row := vouchRestsRow, standIns := [], harness := (true, "1ee77a617945d33e3d75f6f835dbd8aff6fac7be2c3d7c0de74290fe8fe1eaec"), looks := true }, kinds := [], alts := [], laidByText := true, laidKinds := [.data], laidTests := true, laidLooks := .later }
def VouchRestsCardSaid : Prop := Claim7.holds Tryd.pinned (.plain (OpenSpec.ofChange vouchRestsSpec)) vouchRestsCard

/-- THE SECOND FORM's CARD OF 'compasslaw12.VouchCovers'. -/
def vouchCoversUptoCard : Claim7 := { stood := { row := vouchCoversUptoRow, standIns := [], harness := (true, "1ee77a617945d33e3d75f6f835dbd8aff6fac7be2c3d7c0de74290fe8fe1eaec"), looks := true }, kinds := [], alts := [], laidByText := true, laidKinds := [.data], laidTests := true, laidLooks := .later }
def VouchCoversUptoCardSaid : Prop := Claim7.holds Tryd.pinned (.plain (OpenSpec.upto vouchCoversSpec)) vouchCoversUptoCard

/-- THE SECOND FORM's CARD OF 'compasslaw12.VouchBarriers'. -/
def vouchBarriersUptoCard : Claim7 := { stood := { row := vouchBarriersUptoRow, standIns := [], harness := (true, "1ee77a617945d33e3d75f6f835dbd8aff6fac7be2c3d7c0de74290fe8fe1eaec"), looks := true }, kinds := [], alts := [], laidByText := true, laidKinds := [.data], laidTests := true, laidLooks := .later }
def VouchBarriersUptoCardSaid : Prop := Claim7.holds Tryd.pinned (.plain (OpenSpec.upto vouchBarriersSpec)) vouchBarriersUptoCard

/-- THE SECOND FORM's CARD OF 'compasslaw12.VouchDuals'. -/
def vouchDualsUptoCard : Claim7 := { stood := { row := vouchDualsUptoRow, standIns := [], harness := (true, "1ee77a617945d33e3d75f6f835dbd8aff6fac7be2c3d7c0de74290fe8fe1eaec"), looks := true }, kinds := [], alts := [], laidByText := true, laidKinds := [.data], laidTests := true, laidLooks := .later }
def VouchDualsUptoCardSaid : Prop := Claim7.holds Tryd.pinned (.plain (OpenSpec.upto vouchDualsSpec)) vouchDualsUptoCard

/-- THE SECOND FORM's CARD OF 'compasslaw12.VouchGadgets'. -/
def vouchGadgetsUptoCard : Claim7 := { stood := { row := vouchGadgetsUptoRow, standIns := [], harness := (true, "1ee77a617945d33e3d75f6f835dbd8aff6fac7be2c3d7c0de74290fe8fe1eaec"), looks := true }, kinds := [], alts := [], laidByText := true, laidKinds := [.data], laidTests := true, laidLooks := .later }
def VouchGadgetsUptoCardSaid : Prop := Claim7.holds Tryd.pinned (.plain (OpenSpec.upto vouchGadgetsSpec)) vouchGadgetsUptoCard

/-- THE SECOND FORM's CARD OF 'compasslaw12.VouchEvens'. -/
def vouchEvensUptoCard : Claim7 := { stood := { row := vouchEvensUptoRow, standIns := [], harness := (true, "1ee77a617945d33e3d75f6f835dbd8aff6fac7be2c3d7c0de74290fe8fe1eaec"), looks := true }, kinds := [], alts := [], laidByText := true, laidKinds := [.data], laidTests := true, laidLooks := .later }
def VouchEvensUptoCardSaid : Prop := Claim7.holds Tryd.pinned (.plain (OpenSpec.upto vouchEvensSpec)) vouchEvensUptoCard

/-- THE SECOND FORM's CARD OF 'compasslaw12.VouchCoverSound'. -/
def vouchCoverSoundUptoCard : Claim7 := { stood := { row := vouchCoverSoundUptoRow, standIns := [], harness := (true, "1ee77a617945d33e3d75f6f835dbd8aff6fac7be2c3d7c0de74290fe8fe1eaec"), looks := true }, kinds := [], alts := [], laidByText := true, laidKinds := [.data], laidTests := true, laidLooks := .later }
def VouchCoverSoundUptoCardSaid : Prop := Claim7.holds Tryd.pinned (.plain (OpenSpec.upto vouchCoverSoundSpec)) vouchCoverSoundUptoCard

/-- THE SECOND FORM's CARD OF 'compasslaw12.VouchBarrierSound'. -/
def vouchBarrierSoundUptoCard : Claim7 := { stood := { row := vouchBarrierSoundUptoRow, standIns := [], harness := (true, "1ee77a617945d33e3d75f6f835dbd8aff6fac7be2c3d7c0de74290fe8fe1eaec"), looks := true }, kinds := [], alts := [], laidByText := true, laidKinds := [.data], laidTests := true, laidLooks := .later }
def VouchBarrierSoundUptoCardSaid : Prop := Claim7.holds Tryd.pinned (.plain (OpenSpec.upto vouchBarrierSoundSpec)) vouchBarrierSoundUptoCard

/-- THE SECOND FORM's CARD OF 'compasslaw12.VouchDualSound'. -/
def vouchDualSoundUptoCard : Claim7 := { stood := { row := vouchDualSoundUptoRow, standIns := [], harness := (true, "1ee77a617945d33e3d75f6f835dbd8aff6fac7be2c3d7c0de74290fe8fe1eaec"), looks := true }, kinds := [], alts := [], laidByText := true, laidKinds := [.data], laidTests := true, laidLooks := .later }
def VouchDualSoundUptoCardSaid : Prop := Claim7.holds Tryd.pinned (.plain (OpenSpec.upto vouchDualSoundSpec)) vouchDualSoundUptoCard

/-- THE SECOND FORM's CARD OF 'compasslaw12.VouchManySound'. -/
def vouchManySoundUptoCard : Claim7 := { stood := { row := vouchManySoundUptoRow, standIns := [], harness := (true, "1ee77a617945d33e3d75f6f835dbd8aff6fac7be2c3d7c0de74290fe8fe1eaec"), looks := true }, kinds := [], alts := [], laidByText := true, laidKinds := [.data], laidTests := true, laidLooks := .later }
def VouchManySoundUptoCardSaid : Prop := Claim7.holds Tryd.pinned (.plain (OpenSpec.upto vouchManySoundSpec)) vouchManySoundUptoCard

/-- THE SECOND FORM's CARD OF 'compasslaw12.VouchEvenSound'. -/
def vouchEvenSoundUptoCard : Claim7 := { stood := { row := vouchEvenSoundUptoRow, standIns := [], harness := (true, "1ee77a617945d33e3d75f6f835dbd8aff6fac7be2c3d7c0de74290fe8fe1eaec"), looks := true }, kinds := [], alts := [], laidByText := true, laidKinds := [.data], laidTests := true, laidLooks := .later }
def VouchEvenSoundUptoCardSaid : Prop := Claim7.holds Tryd.pinned (.plain (OpenSpec.upto vouchEvenSoundSpec)) vouchEvenSoundUptoCard

/-- THE SECOND FORM's CARD OF 'compasslaw12.VouchFull'. -/
def vouchFullUptoCard : Claim7 := { stood := { row := vouchFullUptoRow, standIns := [], harness := (true, "1ee77a617945d33e3d75f6f835dbd8aff6fac7be2c3d7c0de74290fe8fe1eaec"), looks := true }, kinds := [], alts := [], laidByText := true, laidKinds := [.data], laidTests := true, laidLooks := .later }
def VouchFullUptoCardSaid : Prop := Claim7.holds Tryd.pinned (.plain (OpenSpec.upto vouchFullSpec)) vouchFullUptoCard

/-- THE SECOND FORM's CARD OF 'compasslaw12.VouchGadgetFits'. -/
def vouchGadgetFitsUptoCard : Claim7 := { stood := { row := vouchGadgetFitsUptoRow, standIns := [], harness := (true, "1ee77a617945d33e3d75f6f835dbd8aff6fac7be2c3d7c0de74290fe8fe1eaec"), looks := true }, kinds := [], alts := [], laidByText := true, laidKinds := [.data], laidTests := true, laidLooks := .later }
def VouchGadgetFitsUptoCardSaid : Prop := Claim7.holds Tryd.pinned (.plain (OpenSpec.upto vouchGadgetFitsSpec)) vouchGadgetFitsUptoCard

/-- THE SECOND FORM's CARD OF 'compasslaw12.VouchRests'. -/
def vouchRestsUptoCard : Claim7 := { stood := { row := vouchRestsUptoRow, standIns := [], harness := (true, "1ee77a617945d33e3d75f6f835dbd8aff6fac7be2c3d7c0de74290fe8fe1eaec"), looks := true }, kinds := [], alts := [], laidByText := true, laidKinds := [.data], laidTests := true, laidLooks := .later }
def VouchRestsUptoCardSaid : Prop := Claim7.holds Tryd.pinned (.plain (OpenSpec.upto vouchRestsSpec)) vouchRestsUptoCard
end Rows
end Go.Proofs.YtpdppjngbbkbbaaDoor

/- A row of calls that came in as an argument. -/
import Derived.Test.YtipkmnhkmnajoaaUnG
import Derived.WalkKit
import Derived.ProofKit
import Derived.SizedLaws
import Derived.OpenShut
import Derived.ShutString
import Derived.ChangeOld
import Derived.Below
import Derived.Lib.SmallJoins
namespace Go.Proofs.Ytipkmnhkmnajoaa
open Go.ChangeShapes Go.WideShapes Go.ChangeAt Go.RowKit Go.Joins Go.Deep
open Un

theorem cellsOp : Try.prog.cellsOf 68 = 3 := by kernel_rfl
theorem cellsInt : Try.prog.cellsOf 3 = 1 := by kernel_rfl

theorem list3 {α : Type} {l : List α} (h : l.length = 3) : ∃ a b c, l = [a, b, c] := by
  match l, h with
  | [a, b, c], _ => exact ⟨a, b, c, rfl⟩

/-- One call's three cells. -/
theorem open_op {H : Type} {enc : TypeId × Value → H} {W : World} {base : Nat} {sp : Nat → Bool} {held : Bool} {fuel : Nat} {cs : List Value} {x : DataW H × List MemPlace} (h : DataW.trod enc Try.prog W base sp held fuel 68 cs = some x) :
    ∃ o : Op3, cs = [.int .i64 o.k, .int .i64 o.u, .int .i64 o.v] := by
  obtain ⟨y0, y1, y2, n, _, hl, h0, h1, h2⟩ := trod_struct3 Try.underlying68 h
  rw [cellsOp] at hl
  obtain ⟨a, b, c, rfl⟩ := list3 hl
  simp only [cellsInt] at h0 h1 h2
  obtain ⟨z0, e0, _, w0⟩ := DataW.trod_int Try.underlying3 h0
  obtain ⟨z1, e1, _, w1⟩ := DataW.trod_int Try.underlying3 h1
  obtain ⟨z2, e2, _, w2⟩ := DataW.trod_int Try.underlying3 h2
  simp at e0 e1 e2
  subst e0 e1 e2
  exact ⟨⟨z0, z1, z2⟩, rfl⟩

/-- The row of calls. -/
theorem open_ops {H : Type} {enc : TypeId × Value → H} {W : World} {base : Nat} {held : Bool} {fuel : Nat} {ao : Option Addr} {len cap : Nat} {x : DataW H × List MemPlace} (h : DataW.trod enc Try.prog W base (fun _ => true) held fuel 59 [.slice ao len cap] = some x) :
    ∃ os : List Op3, PRow W ao len cap os := by
  rcases open_slice Try.underlying59 h with ⟨hcs, rfl⟩ | ⟨a, l, c, m, n, D, Pl, hcs, _, hl, hm, hmm, rfl, hel⟩
  · simp only [List.cons.injEq, Value.slice.injEq, and_true] at hcs
    obtain ⟨rfl, rfl, rfl⟩ := hcs
    exact ⟨[], ⟨rfl, by omega, by unfold maxLen; omega, fun h => by omega⟩⟩
  · simp only [List.cons.injEq, Value.slice.injEq, and_true] at hcs
    obtain ⟨rfl, rfl, rfl⟩ := hcs
    simp only [if_true] at hmm
    subst hmm
    rw [cellsOp] at hel
    have hx : ∀ i, i < len → ∃ o : Op3, W.cell? (a.add (i * 3)) = some (.int .i64 o.k) ∧ W.cell? (a.add (i * 3 + 1)) = some (.int .i64 o.u) ∧ W.cell? (a.add (i * 3 + 2)) = some (.int .i64 o.v) := fun i hi => by
      obtain ⟨cs', hc, ht⟩ := hel i (by omega)
      obtain ⟨o, rfl⟩ := open_op ht
      obtain ⟨_, _, hg⟩ := World.cells?_some hc
      refine ⟨o, ?_, ?_, ?_⟩
      · have := hg 0 (by omega); rw [add_add] at this; simpa using this
      · have := hg 1 (by omega); rw [add_add] at this; simpa using this
      · have := hg 2 (by omega); rw [add_add] at this; simpa using this
    haveI : Inhabited Op3 := ⟨⟨0, 0, 0⟩⟩
    obtain ⟨F, hF⟩ := choose_lt hx
    have hat : ∀ i, i < len → opAt ((List.range len).map F) i = F i := fun i hi => by simp [opAt, List.getD, hi]
    refine ⟨(List.range len).map F, ⟨by simp, hl, hm, fun hn => ?_⟩⟩
    obtain ⟨b, off, spot⟩ := a
    have h0 := (hF 0 hn).1
    have hspot : spot = none := by simpa [Addr.add] using World.cell?_spot h0
    subst hspot
    have ga : ∀ m, (⟨b, off, none⟩ : Addr).add m = ⟨b, off + m, none⟩ := fun m => by
      by_cases hm : m = 0
      · subst hm; simp [Addr.add]
      · simp [Addr.add, hm]
    refine ⟨b, off, rfl, fun i hi => ?_⟩
    rw [hat i hi]
    obtain ⟨t1, t2, t3⟩ := hF i hi
    rw [ga] at t1 t2 t3
    exact ⟨t1, t2, t3⟩
end Go.Proofs.Ytipkmnhkmnajoaa

/- A graph that came in as an argument: its row of edges. -/
import Derived.Test.YtpdppjngbbkbbaaDoorEdgeB
import Derived.WalkKit
import Derived.ProofKit
import Derived.SizedLaws
import Derived.OpenShut
import Derived.ShutString
import Derived.ChangeOld
import Derived.Below
import Derived.Lib.SmallJoins
namespace Go.Proofs.YtpdppjngbbkbbaaDoor
open Go.ChangeShapes Go.WideShapes Go.ChangeAt Go.RowKit Go.Joins Go.Deep

theorem cellsE : Tryd.prog.cellsOf 86 = 4 := by kernel_rfl
theorem cellsG : Tryd.prog.cellsOf 24 = 2 := by kernel_rfl
theorem cellsI : Tryd.prog.cellsOf 3 = 1 := by kernel_rfl
theorem cellsL : Tryd.prog.cellsOf 2 = 1 := by kernel_rfl
theorem bytesE : Tryd.prog.bytesOf 86 = 32 := by kernel_rfl

def i64ok (z : Int) : Prop := (Lit.int .i64 z).wf = true
def EdOk (e : Ed) : Prop := i64ok e.f ∧ i64ok e.t ∧ i64ok e.c ∧ i64ok e.k

theorem list4 {α : Type} {l : List α} (h : l.length = 4) : ∃ a b c d, l = [a, b, c, d] := by
  match l, h with
  | [a, b, c, d], _ => exact ⟨a, b, c, d, rfl⟩

/-- One edge's four cells. -/
theorem open_edge {H : Type} {enc : TypeId × Value → H} {W : World} {base : Nat} {sp : Nat → Bool} {held : Bool} {fuel : Nat} {cs : List Value} {x : DataW H × List MemPlace} (h : DataW.trod enc Tryd.prog W base sp held fuel 86 cs = some x) :
    ∃ e : Ed, cs = [.int .i64 e.f, .int .i64 e.t, .int .i64 e.c, .int .i64 e.k] ∧ EdOk e := by
  obtain ⟨y0, y1, y2, y3, n, _, hl, h0, h1, h2, h3⟩ := trod_struct4 Tryd.underlying86 h
  rw [cellsE] at hl
  obtain ⟨a, b, c, d, rfl⟩ := list4 hl
  simp only [cellsI, cellsL] at h0 h1 h2 h3
  obtain ⟨z0, e0, _, w0⟩ := DataW.trod_int Tryd.underlying3 h0
  obtain ⟨z1, e1, _, w1⟩ := DataW.trod_int Tryd.underlying3 h1
  obtain ⟨z2, e2, _, w2⟩ := DataW.trod_int Tryd.underlying2 h2
  obtain ⟨z3, e3, _, w3⟩ := DataW.trod_int Tryd.underlying2 h3
  simp at e0 e1 e2 e3
  subst e0 e1 e2 e3
  exact ⟨⟨z0, z1, z2, z3⟩, rfl, w0, w1, w2, w3⟩

/-- The row of edges. -/
theorem open_edges {H : Type} {enc : TypeId × Value → H} {W : World} {base : Nat} {held : Bool} {fuel : Nat} {ao : Option Addr} {len cap : Nat} {x : DataW H × List MemPlace} (h : DataW.trod enc Tryd.prog W base (fun _ => true) held fuel 22 [.slice ao len cap] = some x) :
    (∃ es : List Ed, ERow W ao len cap es ∧ ∀ e ∈ es, EdOk e) ∧ (ao = none → len = 0 ∧ cap = 0) ∧ (x.1 = .nil ∧ len = 0 ∨ ∃ elems spare, x.1 = .slice elems spare ∧ elems.length = len ∧ elems.length + spare.length = cap) := by
  rcases open_slice Tryd.underlying22 h with ⟨hcs, rfl⟩ | ⟨a, l, c, m, n, D, Pl, hcs, _, hl, hm, hmm, rfl, hel⟩
  · simp only [List.cons.injEq, Value.slice.injEq, and_true] at hcs
    obtain ⟨rfl, rfl, rfl⟩ := hcs
    exact ⟨⟨[], ⟨rfl, by omega, by unfold maxLen; omega, fun h => by omega⟩, fun e he => by cases he⟩, fun _ => ⟨rfl, rfl⟩, .inl ⟨rfl, rfl⟩⟩
  · simp only [List.cons.injEq, Value.slice.injEq, and_true] at hcs
    obtain ⟨rfl, rfl, rfl⟩ := hcs
    simp only [if_true] at hmm
    subst hmm
    rw [cellsE] at hel
    have hx : ∀ i, i < len → ∃ e : Ed, EdOk e ∧ W.cell? (a.add (i * 4)) = some (.int .i64 e.f) ∧ W.cell? (a.add (i * 4 + 1)) = some (.int .i64 e.t) ∧ W.cell? (a.add (i * 4 + 2)) = some (.int .i64 e.c) ∧ W.cell? (a.add (i * 4 + 3)) = some (.int .i64 e.k) := fun i hi => by
      obtain ⟨cs', hc, ht⟩ := hel i (by omega)
      obtain ⟨e, rfl, hok⟩ := open_edge ht
      obtain ⟨_, _, hg⟩ := World.cells?_some hc
      refine ⟨e, hok, ?_, ?_, ?_, ?_⟩
      · have := hg 0 (by omega); rw [add_add] at this; simpa using this
      · have := hg 1 (by omega); rw [add_add] at this; simpa using this
      · have := hg 2 (by omega); rw [add_add] at this; simpa using this
      · have := hg 3 (by omega); rw [add_add] at this; simpa using this
    haveI : Inhabited Ed := ⟨⟨0, 0, 0, 0⟩⟩
    obtain ⟨F, hF⟩ := choose_lt hx
    have hat : ∀ i, i < len → edAt ((List.range len).map F) i = F i := fun i hi => by simp [edAt, List.getD, hi]
    refine ⟨⟨(List.range len).map F, ⟨by simp, hl, hm, fun hn => ?_⟩, fun e he => ?_⟩, fun h => (by cases h), .inr ⟨_, _, rfl, by simp, by simp; omega⟩⟩
    · obtain ⟨b, off, spot⟩ := a
      have h0 := (hF 0 hn).2.1
      have hspot : spot = none := by simpa [Addr.add] using World.cell?_spot h0
      subst hspot
      have ga : ∀ m, (⟨b, off, none⟩ : Addr).add m = ⟨b, off + m, none⟩ := fun m => by
        by_cases hm : m = 0
        · subst hm; simp [Addr.add]
        · simp [Addr.add, hm]
      refine ⟨b, off, rfl, fun i hi => ?_⟩
      rw [hat i hi]
      obtain ⟨_, t1, t2, t3, t4⟩ := hF i hi
      rw [ga] at t1 t2 t3 t4
      exact ⟨t1, t2, t3, t4⟩
    · simp only [List.mem_map, List.mem_range] at he
      obtain ⟨i, hi, rfl⟩ := he
      exact (hF i hi).1
end Go.Proofs.YtpdppjngbbkbbaaDoor

/- A row of calls that came in as an argument. -/
import Derived.Test.YthefeijgpgcecaaGrR
import Derived.Test.YthefeijgpgcecaaGraphOpen
namespace Go.Proofs.Ythefeijgpgcecaa
open Go.ChangeShapes Go.WideShapes Go.ChangeAt Go.RowKit Go.Joins Go.Deep

theorem cellsOp : Try.prog.cellsOf 38 = 6 := by kernel_rfl

theorem list6 {α : Type} {l : List α} (h : l.length = 6) : ∃ a b c d e f, l = [a, b, c, d, e, f] := by
  match l, h with
  | [a, b, c, d, e, f], _ => exact ⟨a, b, c, d, e, f, rfl⟩

/-- One call's six cells. -/
theorem open_gop {H : Type} {enc : TypeId × Value → H} {W : World} {base : Nat} {sp : Nat → Bool} {held : Bool} {fuel : Nat} {cs : List Value} {x : DataW H × List MemPlace} (h : DataW.trod enc Try.prog W base sp held fuel 38 cs = some x) :
    ∃ o : GOp, cs = [.int .i64 o.k, .int .i64 o.a, .int .i64 o.e.f, .int .i64 o.e.t, .int .i64 o.e.c, .int .i64 o.e.k] := by
  obtain ⟨y0, y1, y2, n, _, hl, h0, h1, h2⟩ := trod_struct3 Try.underlying38 h
  rw [cellsOp] at hl
  obtain ⟨a, b, c, d, e, f, rfl⟩ := list6 hl
  simp only [cellsI, cellsE] at h0 h1 h2
  obtain ⟨z0, e0, _, w0⟩ := DataW.trod_int Try.underlying3 h0
  obtain ⟨z1, e1, _, w1⟩ := DataW.trod_int Try.underlying3 h1
  obtain ⟨ed, e2, _⟩ := open_edge h2
  simp at e0 e1 e2
  obtain ⟨rfl, rfl, rfl, rfl⟩ := e2
  subst e0 e1
  exact ⟨⟨z0, z1, ed⟩, rfl⟩

/-- The row of calls. -/
theorem open_gops {H : Type} {enc : TypeId × Value → H} {W : World} {base : Nat} {held : Bool} {fuel : Nat} {ao : Option Addr} {len cap : Nat} {x : DataW H × List MemPlace} (h : DataW.trod enc Try.prog W base (fun _ => true) held fuel 25 [.slice ao len cap] = some x) :
    ∃ os : List GOp, ORow W ao len cap os := by
  rcases open_slice Try.underlying25 h with ⟨hcs, rfl⟩ | ⟨a, l, c, m, n, D, Pl, hcs, _, hl, hm, hmm, rfl, hel⟩
  · simp only [List.cons.injEq, Value.slice.injEq, and_true] at hcs
    obtain ⟨rfl, rfl, rfl⟩ := hcs
    exact ⟨[], ⟨rfl, by omega, by unfold maxLen; omega, fun h => by omega⟩⟩
  · simp only [List.cons.injEq, Value.slice.injEq, and_true] at hcs
    obtain ⟨rfl, rfl, rfl⟩ := hcs
    simp only [if_true] at hmm
    subst hmm
    rw [cellsOp] at hel
    have hx : ∀ i, i < len → ∃ o : GOp, W.cell? (a.add (i * 6)) = some (.int .i64 o.k) ∧ W.cell? (a.add (i * 6 + 1)) = some (.int .i64 o.a) ∧ W.cell? (a.add (i * 6 + 2)) = some (.int .i64 o.e.f) ∧ W.cell? (a.add (i * 6 + 3)) = some (.int .i64 o.e.t) ∧ W.cell? (a.add (i * 6 + 4)) = some (.int .i64 o.e.c) ∧ W.cell? (a.add (i * 6 + 5)) = some (.int .i64 o.e.k) := fun i hi => by
      obtain ⟨cs', hc, ht⟩ := hel i (by omega)
      obtain ⟨o, rfl⟩ := open_gop ht
      obtain ⟨_, _, hg⟩ := World.cells?_some hc
      refine ⟨o, ?_, ?_, ?_, ?_, ?_, ?_⟩
      · have := hg 0 (by omega); rw [add_add] at this; simpa using this
      · have := hg 1 (by omega); rw [add_add] at this; simpa using this
      · have := hg 2 (by omega); rw [add_add] at this; simpa using this
      · have := hg 3 (by omega); rw [add_add] at this; simpa using this
      · have := hg 4 (by omega); rw [add_add] at this; simpa using this
      · have := hg 5 (by omega); rw [add_add] at this; simpa using this
    haveI : Inhabited GOp := ⟨⟨0, 0, ⟨0, 0, 0, 0⟩⟩⟩
    obtain ⟨F, hF⟩ := choose_lt hx
    have hat : ∀ i, i < len → gopAt ((List.range len).map F) i = F i := fun i hi => by simp [gopAt, List.getD, hi]
    refine ⟨(List.range len).map F, ⟨by simp, hl, hm, fun hn => ?_⟩⟩
    obtain ⟨b, off, spot⟩ := a
    have h0 := (hF 0 hn).1
    have hspot : spot = none := by simpa [Addr.add] using World.cell?_spot h0
    subst hspot
    have ga : ∀ m, (⟨b, off, none⟩ : Addr).add m = ⟨b, off + m, none⟩ := fun m => by
      by_cases hm : m = 0
      · subst hm; simp [Addr.add]
      · simp [Addr.add, hm]
    refine ⟨b, off, rfl, fun i hi => ?_⟩
    rw [hat i hi]
    obtain ⟨t1, t2, t3, t4, t5, t6⟩ := hF i hi
    rw [ga] at t1 t2 t3 t4 t5 t6
    exact ⟨t1, t2, t3, t4, t5, t6⟩

/-- An edge that came in. -/
theorem open_edge_arg {H : Type} {enc : TypeId × Value → H} {W : World} {base : Nat} {sp : Nat → Bool} {held : Bool} {r : Reach} {b0 : Nat} {v : Value} {d : DataW H} {p : List MemPlace} (hv : Value.okWide Try.prog W r b0 36 v) (h : DataW.Trod enc Try.prog W base sp held 36 v d p) :
    ∃ e : Ed, v = e.val := by
  obtain ⟨cs, rfl, hsz⟩ := okWide_struct Try.underlying36 hv
  obtain ⟨fuel, hf⟩ := h
  obtain ⟨e, he, _⟩ := open_edge hf
  refine ⟨e, ?_⟩
  have : cs.toList = [.int .i64 e.f, .int .i64 e.t, .int .i64 e.c, .int .i64 e.k] := by simpa [Value.cells] using he
  show Value.agg cs = Value.agg #[.int .i64 e.f, .int .i64 e.t, .int .i64 e.c, .int .i64 e.k]
  rw [← this]
end Go.Proofs.Ythefeijgpgcecaa

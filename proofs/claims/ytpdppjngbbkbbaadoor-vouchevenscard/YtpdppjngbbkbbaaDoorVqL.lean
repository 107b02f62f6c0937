/- One text of GraphOpen, VqL. -/
import Derived.Test.YtpdppjngbbkbbaaDoorEdgeB
import Derived.WalkKit
import Derived.ProofKit
import Derived.SizedLaws
import Derived.OpenShut
import Derived.ShutString
import Derived.ChangeOld
import Derived.Below
import Derived.Lib.SmallJoins
import Derived.Test.YtpdppjngbbkbbaaDoorVoA
import Derived.LaidMore
import Derived.Stop.Joined
import Derived.Test.YtpdppjngbbkbbaaDoorVmG
namespace Go.Proofs.YtpdppjngbbkbbaaDoor
open Go.ChangeShapes Go.WideShapes Go.ChangeAt Go.RowKit Go.Joins Go.Deep

theorem cellsE : Tryd.prog.cellsOf 86 = 4 := by kernel_rfl
theorem cellsG : Tryd.prog.cellsOf 24 = 2 := by kernel_rfl
theorem cellsI : Tryd.prog.cellsOf 3 = 1 := by kernel_rfl
theorem cellsL : Tryd.prog.cellsOf 2 = 1 := by kernel_rfl
theorem bytesE : Tryd.prog.bytesOf 86 = 32 := by kernel_rfl

def i64ok (z : Int) : Prop := (Lit.int .i64 z).wf = true
def EdOk (e : Ed) : Prop := i64ok e.f ∧ i64ok e.t ∧ i64ok e.c ∧ i64ok e.k

theorem list4 {α : Type} {l : List α} (h : l.length = 4) : ∃ a b c d, l = [a, b, c, d] := by
  match l, h with
  | [a, b, c, d], _ => exact ⟨a, b, c, d, rfl⟩

/-- One edge's four cells. -/
theorem open_edge {H : Type} {enc : TypeId × Value → H} {W : World} {base : Nat} {sp : Nat → Bool} {held : Bool} {fuel : Nat} {cs : List Value} {x : DataW H × List MemPlace} (h : DataW.trod enc Tryd.prog W base sp held fuel 86 cs = some x) :
    ∃ e : Ed, cs = [.int .i64 e.f, .int .i64 e.t, .int .i64 e.c, .int .i64 e.k] ∧ EdOk e := by
  obtain ⟨y0, y1, y2, y3, n, _, hl, h0, h1, h2, h3⟩ := trod_struct4 Tryd.underlying86 h
  rw [cellsE] at hl
  obtain ⟨a, b, c, d, rfl⟩ := list4 hl
  simp only [cellsI, cellsL] at h0 h1 h2 h3
  obtain ⟨z0, e0, _, w0⟩ := DataW.trod_int Tryd.underlying3 h0
  obtain ⟨z1, e1, _, w1⟩ := DataW.trod_int Tryd.underlying3 h1
  obtain ⟨z2, e2, _, w2⟩ := DataW.trod_int Tryd.underlying2 h2
  obtain ⟨z3, e3, _, w3⟩ := DataW.trod_int Tryd.underlying2 h3
  simp at e0 e1 e2 e3
  subst e0 e1 e2 e3
  exact ⟨⟨z0, z1, z2, z3⟩, rfl, w0, w1, w2, w3⟩

/-- The row of edges. -/
theorem open_edges {H : Type} {enc : TypeId × Value → H} {W : World} {base : Nat} {held : Bool} {fuel : Nat} {ao : Option Addr} {len cap : Nat} {x : DataW H × List MemPlace} (h : DataW.trod enc Tryd.prog W base (fun _ => true) held fuel 22 [.slice ao len cap] = some x) :
    (∃ es : List Ed, ERow W ao len cap es ∧ ∀ e ∈ es, EdOk e) ∧ (ao = none → len = 0 ∧ cap = 0) ∧ (x.1 = .nil ∧ len = 0 ∨ ∃ elems spare, x.1 = .slice elems spare ∧ elems.length = len ∧ elems.length + spare.length = cap) := by
  rcases open_slice Tryd.underlying22 h with ⟨hcs, rfl⟩ | ⟨a, l, c, m, n, D, Pl, hcs, _, hl, hm, hmm, rfl, hel⟩
  · simp only [List.cons.injEq, Value.slice.injEq, and_true] at hcs
    obtain ⟨rfl, rfl, rfl⟩ := hcs
    exact ⟨⟨[], ⟨rfl, by omega, by unfold maxLen; omega, fun h => by omega⟩, fun e he => by cases he⟩, fun _ => ⟨rfl, rfl⟩, .inl ⟨rfl, rfl⟩⟩
  · simp only [List.cons.injEq, Value.slice.injEq, and_true] at hcs
    obtain ⟨rfl, rfl, rfl⟩ := hcs
    simp only [if_true] at hmm
    subst hmm
    rw [cellsE] at hel
    have hx : ∀ i, i < len → ∃ e : Ed, EdOk e ∧ W.cell? (a.add (i * 4)) = some (.int .i64 e.f) ∧ W.cell? (a.add (i * 4 + 1)) = some (.int .i64 e.t) ∧ W.cell? (a.add (i * 4 + 2)) = some (.int .i64 e.c) ∧ W.cell? (a.add (i * 4 + 3)) = some (.int .i64 e.k) := fun i hi => by
      obtain ⟨cs', hc, ht⟩ := hel i (by omega)
      obtain ⟨e, rfl, hok⟩ := open_edge ht
      obtain ⟨_, _, hg⟩ := World.cells?_some hc
      refine ⟨e, hok, ?_, ?_, ?_, ?_⟩
      · have := hg 0 (by omega); rw [add_add] at this; simpa using this
      · have := hg 1 (by omega); rw [add_add] at this; simpa using this
      · have := hg 2 (by omega); rw [add_add] at this; simpa using this
      · have := hg 3 (by omega); rw [add_add] at this; simpa using this
    haveI : Inhabited Ed := ⟨⟨0, 0, 0, 0⟩⟩
    obtain ⟨F, hF⟩ := choose_lt hx
    have hat : ∀ i, i < len → edAt ((List.range len).map F) i = F i := fun i hi => by simp [edAt, List.getD, hi]
    refine ⟨⟨(List.range len).map F, ⟨by simp, hl, hm, fun hn => ?_⟩, fun e he => ?_⟩, fun h => (by cases h), .inr ⟨_, _, rfl, by simp, by simp; omega⟩⟩
    · obtain ⟨b, off, spot⟩ := a
      have h0 := (hF 0 hn).2.1
      have hspot : spot = none := by simpa [Addr.add] using World.cell?_spot h0
      subst hspot
      have ga : ∀ m, (⟨b, off, none⟩ : Addr).add m = ⟨b, off + m, none⟩ := fun m => by
        by_cases hm : m = 0
        · subst hm; simp [Addr.add]
        · simp [Addr.add, hm]
      refine ⟨b, off, rfl, fun i hi => ?_⟩
      rw [hat i hi]
      obtain ⟨_, t1, t2, t3, t4⟩ := hF i hi
      rw [ga] at t1 t2 t3 t4
      exact ⟨t1, t2, t3, t4⟩
    · simp only [List.mem_map, List.mem_range] at he
      obtain ⟨i, hi, rfl⟩ := he
      exact (hF i hi).1
end Go.Proofs.YtpdppjngbbkbbaaDoor
namespace Go.Proofs.YtpdppjngbbkbbaaDoor
open Go.ChangeShapes Go.WideShapes Go.ChangeAt Go.RowKit Go.Joins Go.Deep

theorem row_at {a : Addr} (m : Nat) (h : a.spot = none) : a.add m = ⟨a.block, a.off + m, none⟩ := by
  obtain ⟨b, off, spot⟩ := a
  simp only at h
  subst h
  by_cases hm : m = 0
  · subst hm; simp [Addr.add]
  · simp [Addr.add, hm]

theorem open_longs {H : Type} {enc : TypeId × Value → H} {W : World} {base : Nat} {held : Bool} {fuel : Nat} {ao : Option Addr} {len cap : Nat} {x : DataW H × List MemPlace} (h : DataW.trod enc Tryd.prog W base (fun _ => true) held fuel 26 [.slice ao len cap] = some x) : ∃ zs : List Int, JRow W ao len cap zs := by
  rcases open_slice Tryd.underlying26 h with ⟨hcs, rfl⟩ | ⟨a, l, c, m, n, D, Pl, hcs, _, hl, hm, hmm, rfl, hel⟩
  · simp only [List.cons.injEq, Value.slice.injEq, and_true] at hcs
    obtain ⟨rfl, rfl, rfl⟩ := hcs
    exact ⟨[], ⟨rfl, by omega, by unfold maxLen; omega, fun h => by omega⟩⟩
  · simp only [List.cons.injEq, Value.slice.injEq, and_true] at hcs
    obtain ⟨rfl, rfl, rfl⟩ := hcs
    simp only [if_true] at hmm
    subst hmm
    rw [cellsL] at hel
    have hx : ∀ i, i < len → ∃ z : Int, W.cell? (a.add (i * 1)) = some (.int .i64 z) := fun i hi => by
      obtain ⟨cs', hc, ht⟩ := hel i (by omega)
      obtain ⟨z, rfl, _, _⟩ := DataW.trod_int Tryd.underlying2 ht
      obtain ⟨_, _, hg⟩ := World.cells?_some hc
      exact ⟨z, by have := hg 0 (by simp); rw [add_add] at this; simpa using this⟩
    obtain ⟨F, hF⟩ := choose_lt hx
    refine ⟨(List.range len).map F, ⟨by simp, hl, hm, fun hn => ?_⟩⟩
    have hsp : a.spot = none := by
      have := World.cell?_spot (hF 0 hn)
      simpa [Addr.add] using this
    refine ⟨a.block, a.off, by cases a; simp_all, fun i hi => ?_⟩
    have := hF i hi
    rw [row_at _ hsp, Nat.mul_one] at this
    rw [this]
    simp [List.getD, hi]

theorem open_ints {H : Type} {enc : TypeId × Value → H} {W : World} {base : Nat} {held : Bool} {fuel : Nat} {ao : Option Addr} {len cap : Nat} {x : DataW H × List MemPlace} (h : DataW.trod enc Tryd.prog W base (fun _ => true) held fuel 25 [.slice ao len cap] = some x) : ∃ zs : List Int, JRow W ao len cap zs := by
  rcases open_slice Tryd.underlying25 h with ⟨hcs, rfl⟩ | ⟨a, l, c, m, n, D, Pl, hcs, _, hl, hm, hmm, rfl, hel⟩
  · simp only [List.cons.injEq, Value.slice.injEq, and_true] at hcs
    obtain ⟨rfl, rfl, rfl⟩ := hcs
    exact ⟨[], ⟨rfl, by omega, by unfold maxLen; omega, fun h => by omega⟩⟩
  · simp only [List.cons.injEq, Value.slice.injEq, and_true] at hcs
    obtain ⟨rfl, rfl, rfl⟩ := hcs
    simp only [if_true] at hmm
    subst hmm
    rw [cellsI] at hel
    have hx : ∀ i, i < len → ∃ z : Int, W.cell? (a.add (i * 1)) = some (.int .i64 z) := fun i hi => by
      obtain ⟨cs', hc, ht⟩ := hel i (by omega)
      obtain ⟨z, rfl, _, _⟩ := DataW.trod_int Tryd.underlying3 ht
      obtain ⟨_, _, hg⟩ := World.cells?_some hc
      exact ⟨z, by have := hg 0 (by simp); rw [add_add] at this; simpa using this⟩
    obtain ⟨F, hF⟩ := choose_lt hx
    refine ⟨(List.range len).map F, ⟨by simp, hl, hm, fun hn => ?_⟩⟩
    have hsp : a.spot = none := by
      have := World.cell?_spot (hF 0 hn)
      simpa [Addr.add] using this
    refine ⟨a.block, a.off, by cases a; simp_all, fun i hi => ?_⟩
    have := hF i hi
    rw [row_at _ hsp, Nat.mul_one] at this
    rw [this]
    simp [List.getD, hi]

end Go.Proofs.YtpdppjngbbkbbaaDoor
namespace Go.Proofs.YtpdppjngbbkbbaaDoor
open Go.ChangeShapes Go.WideShapes Go.ChangeAt Go.RowKit

theorem door_met (os : Os) (args : Array Value) : laidMetH Tryd.prog [("math/bits.deBruijn64tab", Rows.laid_math_bits_deBruijn64tab)] ((World.doorLaid Tryd.prog 400 os).forCall (fun _ _ => 0) ⟨#[], args, []⟩).memory :=
  laidMetH_of_parts3 (fuel := 8) (laidMet_of_run' 8 (by kernel_rfl) (by kernel_rfl)) (by kernel_rfl) (by kernel_rfl)
end Go.Proofs.YtpdppjngbbkbbaaDoor
namespace Go.Proofs.YtpdppjngbbkbbaaDoor
open Go.ChangeShapes Go.WideShapes Go.ChangeAt Go.RowKit

theorem gTab : Tryd.prog.globalNamed "math/bits.deBruijn64tab" = some 0 := by kernel_rfl
theorem tTab : (Tryd.prog.globals[0]?).map (·.type) = some 148 := by kernel_rfl

theorem laid_list {H : Type} : (Rows.laid_math_bits_deBruijn64tab : DataW H) = .agg (Lib.deBruijn64tab.map fun (k : Nat) => .lit (.int .u8 (k : Int))) := rfl

theorem of_laid {W : World} (h : laidMetH Tryd.prog [("math/bits.deBruijn64tab", Rows.laid_math_bits_deBruijn64tab)] W) : Tab W := by
  rw [MakeChecks.laidMetH_plain _ _ _ (by kernel_rfl)] at h
  obtain ⟨ps, ⟨g0, t0, cs0, f0, p0, q0, hg0, ht0, hv0, hd0, _⟩, _, _⟩ := h
  obtain rfl := Option.some.inj (gTab.symm.trans hg0)
  obtain rfl := Option.some.inj (tTab.symm.trans ht0)
  obtain ⟨xs, m1, rfl, hx1, hlen, hn, hel⟩ := DataW.trod_array Tryd.underlying148 hd0
  have c5 : Tryd.prog.cellsOf 5 = 1 := by kernel_rfl
  simp only [Prod.mk.injEq] at hx1
  have hx := hx1.1
  rw [laid_list, DataW.agg.injEq] at hx
  intro j hj
  have h0 := hel j hj
  have hjx : j < xs.length := by rw [hn]; exact hj
  rw [List.getElem?_eq_getElem hjx] at h0
  obtain ⟨k, e1, e2, _⟩ := DataW.trod_int Tryd.underlying5 h0
  have hk : k = ((Lib.deBruijn64tab.getD j 0 : Nat) : Int) := by
    have h2 : (xs.map (·.1))[j]? = some (.lit (.int .u8 k)) := by rw [List.getElem?_map, List.getElem?_eq_getElem hjx, e2]; rfl
    rw [← hx, List.getElem?_map] at h2
    have hjl : j < Lib.deBruijn64tab.length := hj
    rw [List.getElem?_eq_getElem hjl] at h2
    simp only [Option.map_some, Option.some.injEq, DataW.lit.injEq, Lit.int.injEq, true_and] at h2
    rw [← h2]
    simp [List.getD, hjl]
  rw [World.var?_cell hg0 hv0 j, ← hk]
  rw [c5, Nat.mul_one] at e1
  have h3 : (cs0.toList.drop j)[0]? = some (.int .u8 k) := by
    have : ((cs0.toList.drop j).take 1)[0]? = (cs0.toList.drop j)[0]? := by simp
    rw [← this, e1]; rfl
  simpa using h3
end Go.Proofs.YtpdppjngbbkbbaaDoor
namespace Go.Proofs.YtpdppjngbbkbbaaDoor
open Go.ChangeShapes Go.WideShapes Go.ChangeAt Go.RowKit Go.Joins Go.Deep

theorem cellsB : Tryd.prog.cellsOf 110 = 2 := by kernel_rfl
theorem cellsD : Tryd.prog.cellsOf 45 = 2 := by kernel_rfl
theorem cellsIs : Tryd.prog.cellsOf 25 = 1 := by kernel_rfl
theorem cellsLs : Tryd.prog.cellsOf 26 = 1 := by kernel_rfl
theorem cellsBs : Tryd.prog.cellsOf 43 = 1 := by kernel_rfl
theorem list2 {α : Type} {l : List α} (h : l.length = 2) : ∃ a b, l = [a, b] := by
  match l, h with
  | [a, b], _ => exact ⟨a, b, rfl⟩

/-- One set's two cells. -/
theorem open_set {H : Type} {enc : TypeId × Value → H} {W : World} {base : Nat} {held : Bool} {fuel : Nat} {cs : List Value} {x : DataW H × List MemPlace} (h : DataW.trod enc Tryd.prog W base (fun _ => true) held fuel 110 cs = some x) :
    ∃ (s : List Int × Int) (no : Option Addr) (nl nc : Nat), cs = [.slice no nl nc, .int .i64 s.2] ∧ JRow W no nl nc s.1 := by
  obtain ⟨y0, y1, n, _, hl, h0, h1⟩ := trod_struct2 Tryd.underlying110 h
  rw [cellsB] at hl
  obtain ⟨a, b, rfl⟩ := list2 hl
  simp only [cellsIs, cellsL] at h0 h1
  obtain ⟨no, nl, nc, e0⟩ := slice_form Tryd.underlying25 h0
  obtain ⟨z1, e1, _, w1⟩ := DataW.trod_int Tryd.underlying2 h1
  simp at e0 e1
  subst e0 e1
  obtain ⟨zs, hz⟩ := open_ints h0
  exact ⟨(zs, z1), no, nl, nc, rfl, hz⟩

/-- The row of sets. -/
theorem open_sets {H : Type} {enc : TypeId × Value → H} {W : World} {base : Nat} {held : Bool} {fuel : Nat} {ao : Option Addr} {len cap : Nat} {x : DataW H × List MemPlace} (h : DataW.trod enc Tryd.prog W base (fun _ => true) held fuel 43 [.slice ao len cap] = some x) :
    ∃ ss : Sets, DRow W ao len cap ss ∧ (len = 0 ∨ ∃ elems spare, x.1 = .slice elems spare ∧ elems.length = len) := by
  rcases open_slice Tryd.underlying43 h with ⟨hcs, rfl⟩ | ⟨a, l, c, m, n, D, Pl, hcs, _, hl, hm, hmm, rfl, hel⟩
  · simp only [List.cons.injEq, Value.slice.injEq, and_true] at hcs
    obtain ⟨rfl, rfl, rfl⟩ := hcs
    exact ⟨[], ⟨rfl, by omega, by unfold maxLen; omega, fun h => by omega⟩, .inl rfl⟩
  · simp only [List.cons.injEq, Value.slice.injEq, and_true] at hcs
    obtain ⟨rfl, rfl, rfl⟩ := hcs
    simp only [if_true] at hmm
    subst hmm
    rw [cellsB] at hel
    have hx : ∀ i, i < len → ∃ s : List Int × Int, ∃ no nl nc, W.cell? (a.add (i * 2)) = some (.slice no nl nc) ∧ JRow W no nl nc s.1 ∧ W.cell? (a.add (i * 2 + 1)) = some (.int .i64 s.2) := fun i hi => by
      obtain ⟨cs', hc, ht⟩ := hel i (by omega)
      obtain ⟨s, no, nl, nc, rfl, hj⟩ := open_set ht
      obtain ⟨_, _, hg⟩ := World.cells?_some hc
      refine ⟨s, no, nl, nc, ?_, hj, ?_⟩
      · have := hg 0 (by omega); rw [add_add] at this; simpa using this
      · have := hg 1 (by omega); rw [add_add] at this; simpa using this
    obtain ⟨F, hF⟩ := choose_lt hx
    have hat : ∀ i, i < len → setAt ((List.range len).map F) i = F i := fun i hi => by simp [setAt, List.getD, hi]
    refine ⟨(List.range len).map F, ⟨by simp, hl, hm, fun hn => ?_⟩, .inr ⟨_, _, rfl, by simp⟩⟩
    obtain ⟨b, off, spot⟩ := a
    obtain ⟨no, nl, nc, h0, -, -⟩ := hF 0 hn
    have hspot : spot = none := by simpa [Addr.add] using World.cell?_spot h0
    subst hspot
    have ga : ∀ m, (⟨b, off, none⟩ : Addr).add m = ⟨b, off + m, none⟩ := fun m => by
      by_cases hm : m = 0
      · subst hm; simp [Addr.add]
      · simp [Addr.add, hm]
    refine ⟨b, off, rfl, fun i hi => ?_⟩
    rw [hat i hi]
    obtain ⟨no, nl, nc, t1, t2, t3⟩ := hF i hi
    rw [ga] at t1 t3
    exact ⟨no, nl, nc, t1, t2, t3⟩

/-- Duals: their two cells. -/
theorem open_duals {H : Type} {enc : TypeId × Value → H} {W : World} {base : Nat} {held : Bool} {fuel : Nat} {cs : List Value} {x : DataW H × List MemPlace} (h : DataW.trod enc Tryd.prog W base (fun _ => true) held fuel 45 cs = some x) :
    ∃ (yo : Option Addr) (my yc : Nat) (Y : List Int) (so : Option Addr) (ns sc : Nat) (ss : Sets), cs = [.slice yo my yc, .slice so ns sc] ∧ JRow W yo my yc Y ∧ DRow W so ns sc ss ∧ (ns = 0 ∨ ∃ dY elems spare, x.1 = .agg [dY, .slice elems spare] ∧ elems.length = ns) := by
  obtain ⟨y0, y1, n, hx, hl, h0, h1⟩ := trod_struct2 Tryd.underlying45 h
  rw [cellsD] at hl
  obtain ⟨a, b, rfl⟩ := list2 hl
  simp only [cellsLs, cellsBs] at h0 h1
  obtain ⟨yo, my, yc, e0⟩ := slice_form Tryd.underlying26 h0
  obtain ⟨so, ns, sc, e1⟩ := slice_form Tryd.underlying43 h1
  simp at e0 e1
  subst e0 e1
  obtain ⟨Y, hY⟩ := open_longs h0
  obtain ⟨ss, hS, hb⟩ := open_sets h1
  refine ⟨yo, my, yc, Y, so, ns, sc, ss, rfl, hY, hS, ?_⟩
  rcases hb with hb | ⟨elems, spare, hb, hl⟩
  · exact .inl hb
  · exact .inr ⟨y0.1, elems, spare, by rw [hx, hb], hl⟩

theorem cellsP : Tryd.prog.cellsOf 77 = 4 := by kernel_rfl
theorem array_list4 {α : Type} {cs : Array α} (h : cs.size = 4) : ∃ a b c d, cs = #[a, b, c, d] := by
  obtain ⟨l⟩ := cs
  match l, h with
  | [a, b, c, d], _ => exact ⟨a, b, c, d, rfl⟩
set_option maxRecDepth 100000 in
/-- A matching, duals, another matching. -/
theorem open_perfect {H : Type} {enc : TypeId × Value → H} {W : World} {base : Nat} {held : Bool} {r : Reach} {b0 : Nat} {v : Value} {d : DataW H} {p : List MemPlace} (hv : Value.okWide Tryd.prog W r b0 77 v) (h : DataW.Trod enc Tryd.prog W base (fun _ => true) held 77 v d p) :
    ∃ (mo : Option Addr) (lm mc : Nat) (m : List Int) (yo : Option Addr) (my yc : Nat) (Y : List Int) (so : Option Addr) (ns sc : Nat) (ss : Sets) (oo : Option Addr) (lo oc : Nat) (o : List Int), v = .agg #[.slice mo lm mc, .slice yo my yc, .slice so ns sc, .slice oo lo oc] ∧ JRow W mo lm mc m ∧ JRow W yo my yc Y ∧ DRow W so ns sc ss ∧ JRow W oo lo oc o := by
  obtain ⟨cs, rfl, hsz⟩ := okWide_struct Tryd.underlying77 hv
  obtain ⟨a, b, c, e, rfl⟩ := array_list4 (hsz.trans cellsP)
  obtain ⟨fuel, hf⟩ := h
  obtain ⟨y0, y1, y2, n, _, _, h0, h1, h2⟩ := trod_struct3 Tryd.underlying77 hf
  simp only [cellsIs, cellsD] at h0 h1 h2
  have g0 : DataW.trod enc Tryd.prog W base (fun _ => true) held n 25 [a] = some y0 := h0
  have g1 : DataW.trod enc Tryd.prog W base (fun _ => true) held n 45 [b, c] = some y1 := h1
  have g2 : DataW.trod enc Tryd.prog W base (fun _ => true) held n 25 [e] = some y2 := h2
  obtain ⟨mo, lm, mc, e0⟩ := slice_form Tryd.underlying25 g0
  obtain ⟨oo, lo, oc, e2⟩ := slice_form Tryd.underlying25 g2
  simp at e0 e2
  subst e0 e2
  obtain ⟨m, hm⟩ := open_ints g0
  obtain ⟨o, ho⟩ := open_ints g2
  obtain ⟨yo, my, yc, Y, so, ns, sc, ss, e1, hY, hS, -⟩ := open_duals g1
  simp at e1
  obtain ⟨rfl, rfl⟩ := e1
  exact ⟨mo, lm, mc, m, yo, my, yc, Y, so, ns, sc, ss, oo, lo, oc, o, rfl, hm, hY, hS, ho⟩

theorem cellsM : Tryd.prog.cellsOf 65 = 3 := by kernel_rfl
theorem cellsEv : Tryd.prog.cellsOf 67 = 5 := by kernel_rfl
theorem cellsLss : Tryd.prog.cellsOf 63 = 1 := by kernel_rfl
theorem array_list5 {α : Type} {cs : Array α} (h : cs.size = 5) : ∃ a b c d e, cs = #[a, b, c, d, e] := by
  obtain ⟨l⟩ := cs
  match l, h with
  | [a, b, c, d, e], _ => exact ⟨a, b, c, d, e, rfl⟩

/-- A row of rows. -/
theorem open_rows {H : Type} {enc : TypeId × Value → H} {W : World} {base : Nat} {held : Bool} {fuel : Nat} {ao : Option Addr} {len cap : Nat} {x : DataW H × List MemPlace} (h : DataW.trod enc Tryd.prog W base (fun _ => true) held fuel 63 [.slice ao len cap] = some x) :
    ∃ ds : List (List Int), LRow W ao len cap ds := by
  rcases open_slice Tryd.underlying63 h with ⟨hcs, rfl⟩ | ⟨a, l, c, m, n, D, Pl, hcs, _, hl, hm, hmm, rfl, hel⟩
  · simp only [List.cons.injEq, Value.slice.injEq, and_true] at hcs
    obtain ⟨rfl, rfl, rfl⟩ := hcs
    exact ⟨[], ⟨rfl, by omega, by unfold maxLen; omega, fun h => by omega⟩⟩
  · simp only [List.cons.injEq, Value.slice.injEq, and_true] at hcs
    obtain ⟨rfl, rfl, rfl⟩ := hcs
    simp only [if_true] at hmm
    subst hmm
    rw [cellsLs] at hel
    have hx : ∀ i, i < len → ∃ z : List Int, ∃ ro rl rc, W.cell? (a.add (i * 1)) = some (.slice ro rl rc) ∧ JRow W ro rl rc z := fun i hi => by
      obtain ⟨cs', hc, ht⟩ := hel i (by omega)
      obtain ⟨ro, rl, rc, e0⟩ := slice_form Tryd.underlying26 ht
      subst e0
      obtain ⟨z, hz⟩ := open_longs ht
      obtain ⟨_, _, hg⟩ := World.cells?_some hc
      exact ⟨z, ro, rl, rc, by have := hg 0 (by simp); rw [add_add] at this; simpa using this, hz⟩
    obtain ⟨F, hF⟩ := choose_lt hx
    have hat : ∀ i, i < len → rowAt ((List.range len).map F) i = F i := fun i hi => by simp [rowAt, List.getD, hi]
    refine ⟨(List.range len).map F, ⟨by simp, hl, hm, fun hn => ?_⟩⟩
    have hsp : a.spot = none := by
      obtain ⟨ro, rl, rc, h0, -⟩ := hF 0 hn
      have := World.cell?_spot h0
      simpa [Addr.add] using this
    refine ⟨a.block, a.off, by cases a; simp_all, fun i hi => ?_⟩
    obtain ⟨ro, rl, rc, t1, t2⟩ := hF i hi
    rw [row_at _ hsp, Nat.mul_one] at t1
    rw [hat i hi]
    exact ⟨ro, rl, rc, t1, t2⟩

set_option maxRecDepth 100000 in
/-- Edges, a metric, other edges. -/
theorem open_even {H : Type} {enc : TypeId × Value → H} {W : World} {base : Nat} {held : Bool} {r : Reach} {b0 : Nat} {v : Value} {d : DataW H} {p : List MemPlace} (hv : Value.okWide Tryd.prog W r b0 67 v) (h : DataW.Trod enc Tryd.prog W base (fun _ => true) held 67 v d p) :
    ∃ (mo : Option Addr) (lm mc : Nat) (m : List Int) (dO : Option Addr) (nd dc : Nat) (ds : List (List Int)) (yo : Option Addr) (my yc : Nat) (Y : List Int) (so : Option Addr) (ns sc : Nat) (ss : Sets) (oo : Option Addr) (lo oc : Nat) (o : List Int), v = .agg #[.slice mo lm mc, .slice dO nd dc, .slice yo my yc, .slice so ns sc, .slice oo lo oc] ∧ JRow W mo lm mc m ∧ LRow W dO nd dc ds ∧ JRow W yo my yc Y ∧ DRow W so ns sc ss ∧ JRow W oo lo oc o ∧ (ns = 0 ∨ ∃ d0 d1 dY d2 elems spare, d = .agg [d0, .agg [d1, .agg [dY, .slice elems spare]], d2] ∧ elems.length = ns) := by
  obtain ⟨cs, rfl, hsz⟩ := okWide_struct Tryd.underlying67 hv
  obtain ⟨a, b, c, e, f, rfl⟩ := array_list5 (hsz.trans cellsEv)
  obtain ⟨fuel, hf⟩ := h
  obtain ⟨y0, y1, y2, n, hx, _, h0, h1, h2⟩ := trod_struct3 Tryd.underlying67 hf
  simp only [cellsIs, cellsM] at h0 h1 h2
  have g0 : DataW.trod enc Tryd.prog W base (fun _ => true) held n 25 [a] = some y0 := h0
  have g1 : DataW.trod enc Tryd.prog W base (fun _ => true) held n 65 [b, c, e] = some y1 := h1
  have g2 : DataW.trod enc Tryd.prog W base (fun _ => true) held n 25 [f] = some y2 := h2
  obtain ⟨x0, x1, n2, hx1, _, k0, k1⟩ := trod_struct2 Tryd.underlying65 g1
  simp only [cellsLss, cellsD] at k0 k1
  have j0 : DataW.trod enc Tryd.prog W base (fun _ => true) held n2 63 [b] = some x0 := k0
  have j1 : DataW.trod enc Tryd.prog W base (fun _ => true) held n2 45 [c, e] = some x1 := k1
  obtain ⟨mo, lm, mc, e0⟩ := slice_form Tryd.underlying25 g0
  obtain ⟨oo, lo, oc, e2⟩ := slice_form Tryd.underlying25 g2
  obtain ⟨dO, nd, dc, e3⟩ := slice_form Tryd.underlying63 j0
  simp at e0 e2 e3
  subst e0 e2 e3
  obtain ⟨m, hm⟩ := open_ints g0
  obtain ⟨o, ho⟩ := open_ints g2
  obtain ⟨ds, hd⟩ := open_rows j0
  obtain ⟨yo, my, yc, Y, so, ns, sc, ss, e1, hY, hS, hbk⟩ := open_duals j1
  simp at e1
  obtain ⟨rfl, rfl⟩ := e1
  refine ⟨mo, lm, mc, m, dO, nd, dc, ds, yo, my, yc, Y, so, ns, sc, ss, oo, lo, oc, o, rfl, hm, hd, hY, hS, ho, ?_⟩
  rcases hbk with hb | ⟨dY, elems, spare, hb, hl⟩
  · exact .inl hb
  · refine .inr ⟨y0.1, x0.1, dY, y2.1, elems, spare, ?_, hl⟩
    have e := (Prod.mk.inj hx).1
    rw [e, hx1, hb]

set_option maxRecDepth 100000 in
/-- Duals as an argument. -/
theorem open_dualsA {H : Type} {enc : TypeId × Value → H} {W : World} {base : Nat} {held : Bool} {r : Reach} {b0 : Nat} {v : Value} {d : DataW H} {p : List MemPlace} (hv : Value.okWide Tryd.prog W r b0 45 v) (h : DataW.Trod enc Tryd.prog W base (fun _ => true) held 45 v d p) :
    ∃ (yo : Option Addr) (my yc : Nat) (Y : List Int) (so : Option Addr) (ns sc : Nat) (ss : Sets), v = .agg #[.slice yo my yc, .slice so ns sc] ∧ JRow W yo my yc Y ∧ DRow W so ns sc ss ∧ (ns = 0 ∨ ∃ dY elems spare, d = .agg [dY, .slice elems spare] ∧ elems.length = ns) := by
  obtain ⟨cs, rfl, hsz⟩ := okWide_struct Tryd.underlying45 hv
  obtain ⟨fuel, hf⟩ := h
  obtain ⟨yo, my, yc, Y, so, ns, sc, ss, e1, hY, hS, hbk⟩ := open_duals hf
  refine ⟨yo, my, yc, Y, so, ns, sc, ss, ?_, hY, hS, hbk⟩
  obtain ⟨l⟩ := cs
  simp [Value.cells] at e1
  rw [e1]
theorem bytesB : Tryd.prog.bytesOf 110 = 32 := by kernel_rfl
end Go.Proofs.YtpdppjngbbkbbaaDoor

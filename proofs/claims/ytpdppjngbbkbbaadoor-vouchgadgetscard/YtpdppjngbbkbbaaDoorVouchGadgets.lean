/- One text of GraphOpen, VqO, VqD, VmX, VqK, VouchGadgets0. -/
import Derived.Test.YtpdppjngbbkbbaaDoorEdgeB
import Derived.WalkKit
import Derived.ProofKit
import Derived.SizedLaws
import Derived.OpenShut
import Derived.ShutString
import Derived.ChangeOld
import Derived.Below
import Derived.Lib.SmallJoins
import Derived.Test.YtpdppjngbbkbbaaDoorVoA
import Derived.LaidMore
import Derived.Stop.Joined
import Derived.Test.YtpdppjngbbkbbaaDoorVmW
import Derived.Laws.StructEq
import Derived.Test.YtpdppjngbbkbbaaDoorTie
import Derived.Test.YtpdppjngbbkbbaaDoorCards
import Derived.SevenTiedAt
namespace Go.Proofs.YtpdppjngbbkbbaaDoor
open Go.ChangeShapes Go.WideShapes Go.ChangeAt Go.RowKit Go.Joins Go.Deep

theorem cellsE : Tryd.prog.cellsOf 86 = 4 := by kernel_rfl
theorem cellsG : Tryd.prog.cellsOf 24 = 2 := by kernel_rfl
theorem cellsI : Tryd.prog.cellsOf 3 = 1 := by kernel_rfl
theorem cellsL : Tryd.prog.cellsOf 2 = 1 := by kernel_rfl
theorem bytesE : Tryd.prog.bytesOf 86 = 32 := by kernel_rfl

def i64ok (z : Int) : Prop := (Lit.int .i64 z).wf = true
def EdOk (e : Ed) : Prop := i64ok e.f ∧ i64ok e.t ∧ i64ok e.c ∧ i64ok e.k

theorem list4 {α : Type} {l : List α} (h : l.length = 4) : ∃ a b c d, l = [a, b, c, d] := by
  match l, h with
  | [a, b, c, d], _ => exact ⟨a, b, c, d, rfl⟩

/-- One edge's four cells. -/
theorem open_edge {H : Type} {enc : TypeId × Value → H} {W : World} {base : Nat} {sp : Nat → Bool} {held : Bool} {fuel : Nat} {cs : List Value} {x : DataW H × List MemPlace} (h : DataW.trod enc Tryd.prog W base sp held fuel 86 cs = some x) :
    ∃ e : Ed, cs = [.int .i64 e.f, .int .i64 e.t, .int .i64 e.c, .int .i64 e.k] ∧ EdOk e := by
  obtain ⟨y0, y1, y2, y3, n, _, hl, h0, h1, h2, h3⟩ := trod_struct4 Tryd.underlying86 h
  rw [cellsE] at hl
  obtain ⟨a, b, c, d, rfl⟩ := list4 hl
  simp only [cellsI, cellsL] at h0 h1 h2 h3
  obtain ⟨z0, e0, _, w0⟩ := DataW.trod_int Tryd.underlying3 h0
  obtain ⟨z1, e1, _, w1⟩ := DataW.trod_int Tryd.underlying3 h1
  obtain ⟨z2, e2, _, w2⟩ := DataW.trod_int Tryd.underlying2 h2
  obtain ⟨z3, e3, _, w3⟩ := DataW.trod_int Tryd.underlying2 h3
  simp at e0 e1 e2 e3
  subst e0 e1 e2 e3
  exact ⟨⟨z0, z1, z2, z3⟩, rfl, w0, w1, w2, w3⟩

/-- The row of edges. -/
theorem open_edges {H : Type} {enc : TypeId × Value → H} {W : World} {base : Nat} {held : Bool} {fuel : Nat} {ao : Option Addr} {len cap : Nat} {x : DataW H × List MemPlace} (h : DataW.trod enc Tryd.prog W base (fun _ => true) held fuel 22 [.slice ao len cap] = some x) :
    (∃ es : List Ed, ERow W ao len cap es ∧ ∀ e ∈ es, EdOk e) ∧ (ao = none → len = 0 ∧ cap = 0) ∧ (x.1 = .nil ∧ len = 0 ∨ ∃ elems spare, x.1 = .slice elems spare ∧ elems.length = len ∧ elems.length + spare.length = cap) := by
  rcases open_slice Tryd.underlying22 h with ⟨hcs, rfl⟩ | ⟨a, l, c, m, n, D, Pl, hcs, _, hl, hm, hmm, rfl, hel⟩
  · simp only [List.cons.injEq, Value.slice.injEq, and_true] at hcs
    obtain ⟨rfl, rfl, rfl⟩ := hcs
    exact ⟨⟨[], ⟨rfl, by omega, by unfold maxLen; omega, fun h => by omega⟩, fun e he => by cases he⟩, fun _ => ⟨rfl, rfl⟩, .inl ⟨rfl, rfl⟩⟩
  · simp only [List.cons.injEq, Value.slice.injEq, and_true] at hcs
    obtain ⟨rfl, rfl, rfl⟩ := hcs
    simp only [if_true] at hmm
    subst hmm
    rw [cellsE] at hel
    have hx : ∀ i, i < len → ∃ e : Ed, EdOk e ∧ W.cell? (a.add (i * 4)) = some (.int .i64 e.f) ∧ W.cell? (a.add (i * 4 + 1)) = some (.int .i64 e.t) ∧ W.cell? (a.add (i * 4 + 2)) = some (.int .i64 e.c) ∧ W.cell? (a.add (i * 4 + 3)) = some (.int .i64 e.k) := fun i hi => by
      obtain ⟨cs', hc, ht⟩ := hel i (by omega)
      obtain ⟨e, rfl, hok⟩ := open_edge ht
      obtain ⟨_, _, hg⟩ := World.cells?_some hc
      refine ⟨e, hok, ?_, ?_, ?_, ?_⟩
      · have := hg 0 (by omega); rw [add_add] at this; simpa using this
      · have := hg 1 (by omega); rw [add_add] at this; simpa using this
      · have := hg 2 (by omega); rw [add_add] at this; simpa using this
      · have := hg 3 (by omega); rw [add_add] at this; simpa using this
    haveI : Inhabited Ed := ⟨⟨0, 0, 0, 0⟩⟩
    obtain ⟨F, hF⟩ := choose_lt hx
    have hat : ∀ i, i < len → edAt ((List.range len).map F) i = F i := fun i hi => by simp [edAt, List.getD, hi]
    refine ⟨⟨(List.range len).map F, ⟨by simp, hl, hm, fun hn => ?_⟩, fun e he => ?_⟩, fun h => (by cases h), .inr ⟨_, _, rfl, by simp, by simp; omega⟩⟩
    · obtain ⟨b, off, spot⟩ := a
      have h0 := (hF 0 hn).2.1
      have hspot : spot = none := by simpa [Addr.add] using World.cell?_spot h0
      subst hspot
      have ga : ∀ m, (⟨b, off, none⟩ : Addr).add m = ⟨b, off + m, none⟩ := fun m => by
        by_cases hm : m = 0
        · subst hm; simp [Addr.add]
        · simp [Addr.add, hm]
      refine ⟨b, off, rfl, fun i hi => ?_⟩
      rw [hat i hi]
      obtain ⟨_, t1, t2, t3, t4⟩ := hF i hi
      rw [ga] at t1 t2 t3 t4
      exact ⟨t1, t2, t3, t4⟩
    · simp only [List.mem_map, List.mem_range] at he
      obtain ⟨i, hi, rfl⟩ := he
      exact (hF i hi).1
end Go.Proofs.YtpdppjngbbkbbaaDoor
namespace Go.Proofs.YtpdppjngbbkbbaaDoor
open Go.ChangeShapes Go.WideShapes Go.ChangeAt Go.RowKit Go.Joins Go.Deep

theorem row_at {a : Addr} (m : Nat) (h : a.spot = none) : a.add m = ⟨a.block, a.off + m, none⟩ := by
  obtain ⟨b, off, spot⟩ := a
  simp only at h
  subst h
  by_cases hm : m = 0
  · subst hm; simp [Addr.add]
  · simp [Addr.add, hm]

theorem open_longs {H : Type} {enc : TypeId × Value → H} {W : World} {base : Nat} {held : Bool} {fuel : Nat} {ao : Option Addr} {len cap : Nat} {x : DataW H × List MemPlace} (h : DataW.trod enc Tryd.prog W base (fun _ => true) held fuel 26 [.slice ao len cap] = some x) : ∃ zs : List Int, JRow W ao len cap zs := by
  rcases open_slice Tryd.underlying26 h with ⟨hcs, rfl⟩ | ⟨a, l, c, m, n, D, Pl, hcs, _, hl, hm, hmm, rfl, hel⟩
  · simp only [List.cons.injEq, Value.slice.injEq, and_true] at hcs
    obtain ⟨rfl, rfl, rfl⟩ := hcs
    exact ⟨[], ⟨rfl, by omega, by unfold maxLen; omega, fun h => by omega⟩⟩
  · simp only [List.cons.injEq, Value.slice.injEq, and_true] at hcs
    obtain ⟨rfl, rfl, rfl⟩ := hcs
    simp only [if_true] at hmm
    subst hmm
    rw [cellsL] at hel
    have hx : ∀ i, i < len → ∃ z : Int, W.cell? (a.add (i * 1)) = some (.int .i64 z) := fun i hi => by
      obtain ⟨cs', hc, ht⟩ := hel i (by omega)
      obtain ⟨z, rfl, _, _⟩ := DataW.trod_int Tryd.underlying2 ht
      obtain ⟨_, _, hg⟩ := World.cells?_some hc
      exact ⟨z, by have := hg 0 (by simp); rw [add_add] at this; simpa using this⟩
    obtain ⟨F, hF⟩ := choose_lt hx
    refine ⟨(List.range len).map F, ⟨by simp, hl, hm, fun hn => ?_⟩⟩
    have hsp : a.spot = none := by
      have := World.cell?_spot (hF 0 hn)
      simpa [Addr.add] using this
    refine ⟨a.block, a.off, by cases a; simp_all, fun i hi => ?_⟩
    have := hF i hi
    rw [row_at _ hsp, Nat.mul_one] at this
    rw [this]
    simp [List.getD, hi]

theorem open_ints {H : Type} {enc : TypeId × Value → H} {W : World} {base : Nat} {held : Bool} {fuel : Nat} {ao : Option Addr} {len cap : Nat} {x : DataW H × List MemPlace} (h : DataW.trod enc Tryd.prog W base (fun _ => true) held fuel 25 [.slice ao len cap] = some x) : ∃ zs : List Int, JRow W ao len cap zs := by
  rcases open_slice Tryd.underlying25 h with ⟨hcs, rfl⟩ | ⟨a, l, c, m, n, D, Pl, hcs, _, hl, hm, hmm, rfl, hel⟩
  · simp only [List.cons.injEq, Value.slice.injEq, and_true] at hcs
    obtain ⟨rfl, rfl, rfl⟩ := hcs
    exact ⟨[], ⟨rfl, by omega, by unfold maxLen; omega, fun h => by omega⟩⟩
  · simp only [List.cons.injEq, Value.slice.injEq, and_true] at hcs
    obtain ⟨rfl, rfl, rfl⟩ := hcs
    simp only [if_true] at hmm
    subst hmm
    rw [cellsI] at hel
    have hx : ∀ i, i < len → ∃ z : Int, W.cell? (a.add (i * 1)) = some (.int .i64 z) := fun i hi => by
      obtain ⟨cs', hc, ht⟩ := hel i (by omega)
      obtain ⟨z, rfl, _, _⟩ := DataW.trod_int Tryd.underlying3 ht
      obtain ⟨_, _, hg⟩ := World.cells?_some hc
      exact ⟨z, by have := hg 0 (by simp); rw [add_add] at this; simpa using this⟩
    obtain ⟨F, hF⟩ := choose_lt hx
    refine ⟨(List.range len).map F, ⟨by simp, hl, hm, fun hn => ?_⟩⟩
    have hsp : a.spot = none := by
      have := World.cell?_spot (hF 0 hn)
      simpa [Addr.add] using this
    refine ⟨a.block, a.off, by cases a; simp_all, fun i hi => ?_⟩
    have := hF i hi
    rw [row_at _ hsp, Nat.mul_one] at this
    rw [this]
    simp [List.getD, hi]

end Go.Proofs.YtpdppjngbbkbbaaDoor
namespace Go.Proofs.YtpdppjngbbkbbaaDoor
open Go.ChangeShapes Go.WideShapes Go.ChangeAt Go.RowKit

theorem door_met (os : Os) (args : Array Value) : laidMetH Tryd.prog [("math/bits.deBruijn64tab", Rows.laid_math_bits_deBruijn64tab)] ((World.doorLaid Tryd.prog 400 os).forCall (fun _ _ => 0) ⟨#[], args, []⟩).memory :=
  laidMetH_of_parts3 (fuel := 8) (laidMet_of_run' 8 (by kernel_rfl) (by kernel_rfl)) (by kernel_rfl) (by kernel_rfl)
end Go.Proofs.YtpdppjngbbkbbaaDoor
namespace Go.Proofs.YtpdppjngbbkbbaaDoor
open Go.RowKit

theorem edge_neq (f t c k : Int) (w : World) : (binOp .neq 86 (.agg #[.int .i64 f, .int .i64 t, .int .i64 c, .int .i64 k]) (.agg #[.int .i64 f, .int .i64 t, .int .i64 c, .int .i64 k])).run Tryd.prog w = .ok (.bool false) w := by
  have hp : Tryd.prog.stoodInHeld 86 = false := by kernel_rfl
  have hu : Tryd.prog.underlying 86 = some (.struct (Tryd.prog.fieldsOf 86)) := by simp [Program.fieldsOf, Tryd.underlying86]
  rw [run_neq_struct, run_equalIn_agg w 9999 86 _ _ hu hp]
  simp [Program.fieldsOf, Tryd.underlying86, Op.eqFields, go_sem, Tryd.underlying3, Tryd.underlying2]

set_option maxRecDepth 100000 in
set_option maxHeartbeats 2000000 in
theorem same_calls (nodes : Int) (ao bo : Option Addr) (n cap cbp : Nat) (es : List Ed) (w : World) (h : ERow w ao n cap es) (h2 : ERow w bo n cbp es) :
    Calls Tryd.prog 34 #[.agg #[.int .i64 nodes, .slice ao n cap], .agg #[.int .i64 nodes, .slice bo n cbp]] w fun v w' => v = .returned (.bool true) ∧ Kept w w' := by
  have hl1 : n ≤ es.length := Nat.le_of_eq h.len
  have hl2 : es.length ≤ n := Nat.le_of_eq h.len.symm
  have hr := h.room
  have hm := h.most
  have hr2 := h2.room
  have hm2 := h2.most
  unfold maxLen at hm hm2
  have q1 : (nodes != nodes) = false := by simp
  have q2 : ((n : Int) != (n : Int)) = false := by simp
  have KG : Kept w ((w.alloc (Obj.cells #[.int .i64 nodes, .slice ao n cap] 24)).alloc (Obj.cells #[.int .i64 nodes, .slice bo n cbp] 24)) := ((Kept.refl w).alloc _).alloc _
  have g1 : ((w.alloc (Obj.cells #[.int .i64 nodes, .slice ao n cap] 24)).alloc (Obj.cells #[.int .i64 nodes, .slice bo n cbp] 24)).cell? ⟨w.heap.size, 1, none⟩ = some (.slice ao n cap) := by simp [go_sem]
  have g2 : ((w.alloc (Obj.cells #[.int .i64 nodes, .slice ao n cap] 24)).alloc (Obj.cells #[.int .i64 nodes, .slice bo n cbp] 24)).cell? ⟨w.heap.size + 1, 1, none⟩ = some (.slice bo n cbp) := by simp [go_sem]
  go_enter Tryd.func34, Tryd.ntmps34
  go_wp2_with fail
  generalize (w.alloc (Obj.cells #[.int .i64 nodes, .slice ao n cap] 24)).alloc (Obj.cells #[.int .i64 nodes, .slice bo n cbp] 24) = W1 at KG g1 g2 ⊢
  have HA := hid_of (h.kept KG)
  have HB := hid_of (h2.kept KG)
  clear h h2
  go_loopw [5] (fun i wr => ∃ (k m : Nat), k ≤ n ∧ i = .int .i64 k ∧ wr = W1.drewN m) (fun i _ => n - (intOf i).toNat)
  case atStart => exact ⟨0, 0, by omega, rfl, rfl⟩
  case round =>
    obtain ⟨k, m, hk, rfl, rfl⟩ := hrel
    by_cases hgo : (k : Int) < (n : Int)
    · obtain ⟨b, off, rfl, hc⟩ := HA.out.cell (by omega)
      obtain ⟨b2, off2, rfl, hc2⟩ := HB.out.cell (by omega)
      obtain ⟨x1, x2, x3, x4⟩ := hc k (by omega)
      obtain ⟨d1, d2, d3, d4⟩ := hc2 k (by omega)
      clear hc hc2 HA HB
      generalize edAt es k = ed at x1 x2 x3 x4 d1 d2 d3 d4
      obtain ⟨ef, et, ec, ek⟩ := ed
      simp only at x1 x2 x3 x4 d1 d2 d3 d4
      have NE := edge_neq ef et ec ek
      go_wp2_with fail
      go_quiet (fail)

      go_wp2
      go_roundw
      case rel => exact ⟨k + 1, _, by omega, by go_num, (by first | rfl | exact World.drewN_drewN ..)⟩
      case measure => simp [intOf]; omega
    · obtain rfl : k = n := by omega
      go_wp2
      go_ret
      exact ⟨rfl, KG.drewN _⟩

theorem upTo_zero (a x : Int) : ∀ k, ∀ e ∈ upTo a x k, e.c = 0 ∧ e.k = 0 := by
  intro k
  induction k with
  | zero => intro e h; cases h
  | succ k ih =>
    intro e h
    rcases List.mem_append.1 h with h | h
    · exact ih e h
    · simp at h; subst h; exact ⟨rfl, rfl⟩
theorem dnTo_zero (x a : Int) : ∀ k, ∀ e ∈ dnTo x a k, e.c = 0 ∧ e.k = 0 := by
  intro k
  induction k with
  | zero => intro e h; cases h
  | succ k ih =>
    intro e h
    rcases List.mem_append.1 h with h | h
    · exact ih e h
    · simp at h; subst h; exact ⟨rfl, rfl⟩
theorem gadTo_zero (cp : Nat → Int) (N : Nat) (es : List Ed) : ∀ k, ∀ e ∈ gadTo cp N es k, e.c = 0 ∧ e.k = 0 := by
  intro k
  induction k with
  | zero => intro e h; cases h
  | succ k ih =>
    intro e h
    rw [gadTo_succ] at h
    split at h
    · exact ih e h
    · rcases List.mem_append.1 h with h | h
      · exact ih e h
      · unfold gadOf at h
        rcases List.mem_append.1 h with h | h
        · rcases List.mem_append.1 h with h | h
          · simp at h; subst h; exact ⟨rfl, rfl⟩
          · exact upTo_zero _ _ _ e h
        · exact dnTo_zero _ _ _ e h
theorem edAt_memG {es : List Ed} {j : Nat} (h : j < es.length) : edAt es j ∈ es := by
  unfold edAt
  rw [List.getD_eq_getElem?_getD, List.getElem?_eq_getElem h]
  exact List.getElem_mem h
/-- The gadget is a right graph. -/
theorem gad_right {cp : Nat → Int} {N n gN : Nat} {es : List Ed} (hcp : CpOk cp N) (RG : Right N n es) (hf : Fits cp N es n) (hg : szN cp N es n = (gN : Int)) : Right gN (gadTo cp N es n).length (gadTo cp N es n) := by
  have hl := gadTo_len hcp RG.ends n (Nat.le_refl _)
  have hm := gadTo_mem hcp RG.ends n (Nat.le_refl _)
  have h1 := hf.1
  have h2 := hf.2
  refine ⟨by omega, by omega, rfl, fun i hi => ?_, fun i hi => ?_, fun i hi => ?_⟩
  · have := hm _ (edAt_memG hi); rw [hg] at this; exact this
  · have := (gadTo_zero cp N es n _ (edAt_memG hi)).1; omega
  · have := (gadTo_zero cp N es n _ (edAt_memG hi)).2; omega

set_option maxRecDepth 100000 in
set_option linter.unusedSimpArgs false in
set_option maxHeartbeats 4000000 in
theorem manyR_calls (nodes : Int) (ao : Option Addr) (n cap : Nat) (es : List Ed) (bo : Option Addr) (mb bc : Nat) (b : List Int) (mo : Option Addr) (lm mc : Nat) (m : List Int) (xo : Option Addr) (lx xc : Nat) (x : List Int) (w : World) (h : ERow w ao n cap es) (hB : JRow w bo mb bc b) (hJ : JRow w mo lm mc m) (hX : JRow w xo lx xc x) (v code : Int) (hans : Hid (manAns nodes es n b mb m lm x lx = (v, code))) :
    Calls Tryd.prog 33 #[.agg #[.int .i64 nodes, .slice ao n cap], .slice bo mb bc, .slice mo lm mc, .slice xo lx xc] w fun e w' => e = .returned (.tuple #[.int .i64 v, .int .i64 code]) ∧ Kept w w' := by
  have hnot : ∀ (x : Bool) (w : World), (Op.unary .not (.bool x)).run Tryd.prog w = .ok (.bool (!x)) w := fun _ _ => rfl
  obtain ⟨N', l', z, hs⟩ : ∃ a1 b1 c1, gadSize nodes es n b mb = (a1, b1, c1) := ⟨_, _, _, rfl⟩
  obtain ⟨L0, hL0⟩ : ∃ L, gadEs nodes es n b mb = L := ⟨_, rfl⟩
  obtain ⟨cnt0, hC0⟩ : ∃ c, gadCnt nodes es n b mb = c := ⟨_, rfl⟩
  have hr1 := hJ.room
  have hm1 := hJ.most
  have hr2 := hX.room
  have hm2 := hX.most
  unfold maxLen at hm1 hm2
  have KW : Kept w (w.alloc (Obj.cells #[.int .i64 nodes, .slice ao n cap] 24)) := (Kept.refl w).alloc _
  have w0 : (w.alloc (Obj.cells #[.int .i64 nodes, .slice ao n cap] 24)).cell? ⟨w.heap.size, 0, none⟩ = some (.int .i64 nodes) := by simp [go_sem]
  have w1 : (w.alloc (Obj.cells #[.int .i64 nodes, .slice ao n cap] 24)).cell? ⟨w.heap.size, 1, none⟩ = some (.slice ao n cap) := by simp [go_sem]
  have HE := hid_of h
  have HB := hid_of hB
  have HJ := hid_of hJ
  have HX := hid_of hX
  have HS := hid_of hs
  have HL0 := hid_of hL0
  have HC0 := hid_of hC0
  clear h hB hJ hX hs hL0 hC0
  go_enter Tryd.func33, Tryd.ntmps33
  go_wp2_with fail
  generalize w.alloc (Obj.cells #[.int .i64 nodes, .slice ao n cap] 24) = W1 at KW w0 w1 ⊢
  refine (gadgetR_calls nodes ao n cap es bo mb bc b W1 (HE.out.kept KW) (HB.out.kept KW) N' l' z HS L0 HL0 cnt0 HC0).mono ?_
  rintro e wa ⟨⟨ao', cap', rfl, ER⟩, K1⟩
  have KA := hid_of (KW.trans K1)
  replace w0 := K1.cell w0
  replace w1 := K1.cell w1
  obtain ⟨hb, hhb⟩ : ∃ hb, wa.heap.size = hb := ⟨_, rfl⟩
  have KB : Kept wa (wa.alloc (Obj.cells #[.int .i64 N', .slice ao' l' cap'] 24)) := (Kept.refl wa).alloc _
  have y0 : (wa.alloc (Obj.cells #[.int .i64 N', .slice ao' l' cap'] 24)).cell? ⟨hb, 0, none⟩ = some (.int .i64 N') := by simp [go_sem, ← hhb]
  have y1 : (wa.alloc (Obj.cells #[.int .i64 N', .slice ao' l' cap'] 24)).cell? ⟨hb, 1, none⟩ = some (.slice ao' l' cap') := by simp [go_sem, ← hhb]
  have ERH := hid_of (ER.kept KB)
  replace w0 := KB.cell w0
  replace w1 := KB.cell w1
  have KC := hid_of (KA.out.trans KB)
  clear K1 KW ER
  go_upto_region 2 with fail
  generalize wa.alloc (Obj.cells #[.int .i64 N', .slice ao' l' cap'] 24) = W2 at w0 w1 y0 y1 ERH KC ⊢
  clear KB hhb KA
  by_cases hz : z = 0
  rotate_left
  · have q : (z != 0) = true := by simpa using hz
    have ANS : Hid (v = 0 ∧ code = z) := by
      have e1 := hans.out
      have e2 := HS.out
      unfold manAns at e1
      unfold gadSize at e2
      by_cases hf : (faultOf nodes es).1 ≠ 0
      · rw [if_pos hf] at e1 e2
        exact ⟨(Prod.mk.inj e1).1.symm, by rw [← (Prod.mk.inj e1).2, ← (Prod.mk.inj (Prod.mk.inj e2).2).2]⟩
      · rw [if_neg hf] at e1 e2
        by_cases hb : BndOk b mb nodes.toNat
        · rw [if_neg (fun t => t hb)] at e1 e2
          by_cases hft : Fits (cpyOf es n b) nodes.toNat es n
          · rw [if_neg (fun t => t hft)] at e2
            exact absurd (Prod.mk.inj (Prod.mk.inj e2).2).2.symm hz
          · rw [if_pos hft] at e1 e2
            exact ⟨(Prod.mk.inj e1).1.symm, by rw [← (Prod.mk.inj e1).2, ← (Prod.mk.inj (Prod.mk.inj e2).2).2]⟩
        · rw [if_pos hb] at e1 e2
          exact ⟨(Prod.mk.inj e1).1.symm, by rw [← (Prod.mk.inj e1).2, ← (Prod.mk.inj (Prod.mk.inj e2).2).2]⟩
    obtain ⟨rfl, rfl⟩ := ANS.out
    clear hz w0 w1 y0 y1
    go_wp2
    go_ret2
    exact ⟨rfl, KC.out⟩
  subst hz
  have hok : (faultOf nodes es).1 = 0 ∧ BndOk b mb nodes.toNat ∧ Fits (cpyOf es n b) nodes.toNat es n := by
    have e2 := HS.out
    unfold gadSize at e2
    split at e2
    · rename_i t; exact absurd (Prod.mk.inj (Prod.mk.inj e2).2).2 t
    · rename_i t
      split at e2
      · exact absurd (Prod.mk.inj (Prod.mk.inj e2).2).2 (by decide)
      · rename_i t2
        split at e2
        · exact absurd (Prod.mk.inj (Prod.mk.inj e2).2).2 (by decide)
        · rename_i t3; exact ⟨by simpa using t, Classical.not_not.1 t2, Classical.not_not.1 t3⟩
  obtain ⟨hf, hbnd, hfit⟩ := hok
  obtain ⟨N, rfl, RG⟩ := right_of (fault_zero hf)
  rw [← HE.out.len] at RG
  rw [Int.toNat_natCast] at hbnd hfit
  have hn := RG.edges
  have hN := RG.nodes
  have hcp : CpOk (cpyOf es n b) N := fun v hv => cpyOf_bd hn hbnd hv
  have g0 := (szN_bd (es := es) hcp hN (k := n) hn).1
  obtain ⟨gN, hgN⟩ : ∃ gN : Nat, szN (cpyOf es n b) N es n = (gN : Int) := ⟨(szN (cpyOf es n b) N es n).toNat, by omega⟩
  have RGG := gad_right hcp RG hfit hgN
  have VALS : Hid (N' = (gN : Int) ∧ l' = (gadTo (cpyOf es n b) N es n).length ∧ L0 = gadTo (cpyOf es n b) N es n ∧ cnt0 = nlTo es n) := by
    have e1 := HS.out
    have e2 := HL0.out
    have e3 := HC0.out
    unfold gadSize at e1
    unfold gadEs at e2
    unfold gadCnt at e3
    rw [if_neg (by simp [hf]), Int.toNat_natCast, if_neg (fun t => t hbnd), if_neg (fun t => t hfit)] at e1 e2 e3
    exact ⟨by rw [← (Prod.mk.inj e1).1, hgN], (Prod.mk.inj (Prod.mk.inj e1).2).1.symm, e2.symm, e3.symm⟩
  obtain ⟨rfl, rfl, rfl, rfl⟩ := VALS.out
  have ANS : Hid ((ManOk es n N b m lm x lx → v = (lm : Int) ∧ code = 0) ∧ (¬ ManOk es n N b m lm x lx → v = 0 ∧ code = 221)) := by
    have e := hans.out
    unfold manAns at e
    rw [if_neg (by simp [hf]), Int.toNat_natCast, if_neg (fun t => t hbnd), if_neg (fun t => t hfit)] at e
    refine ⟨fun t => ?_, fun t => ?_⟩
    · rw [if_pos t] at e
      exact ⟨(Prod.mk.inj e).1.symm, (Prod.mk.inj e).2.symm⟩
    · rw [if_neg t] at e
      exact ⟨(Prod.mk.inj e).1.symm, (Prod.mk.inj e).2.symm⟩
  have MDEF : Hid (ManOk es n N b m lm x lx ↔ TakOk es n N b m lm ∧ RiseTo x (gN : Int) lx ∧ 2 * (nlTo es n + (lm : Int)) + oddTo (gadTo (cpyOf es n b) N es n) (inTo x lx) gN gN = (gN : Int) + (lx : Int)) := by
    show _ ↔ _
    unfold ManOk
    rw [hgN, Int.toNat_natCast]
    constructor
    · rintro ⟨a, c, d⟩; exact ⟨a, c, by omega⟩
    · rintro ⟨a, c, d⟩; exact ⟨a, c, by omega⟩
  obtain rfl : mb = N := hbnd.1
  have TC := hid_of (fun w' (K : Kept W2 w') => takenR_calls mb ao n cap es mo lm mc m bo bc b w' (HE.out.kept (KC.out.trans K)) (HJ.out.kept (KC.out.trans K)) (HB.out.kept (KC.out.trans K)) RG)
  have RC := hid_of (fun w' (K : Kept W2 w') => risingR_calls xo lx xc x (gN : Int) w' (HX.out.kept (KC.out.trans K)))
  generalize hGG : gadTo (cpyOf es n b) mb es n = GG at ERH RGG MDEF y1
  obtain ⟨gl, hgl⟩ : ∃ gl, GG.length = gl := ⟨_, rfl⟩
  have OC := hid_of (fun w' (K : Kept W2 w') => oddR_calls gN ao' GG.length cap' GG xo lx xc x w' (ERH.out.kept K) (HX.out.kept (KC.out.trans K)) RGG (inTo x lx) rfl)
  obtain ⟨OD, hOD⟩ : ∃ o, oddTo GG (inTo x lx) gN gN = o := ⟨_, rfl⟩
  have hODb : Hid (0 ≤ OD ∧ OD ≤ 1024) := by
    show _ ∧ _
    rw [← hOD]
    have := oddTo_bd GG (inTo x lx) gN gN
    have := RGG.nodes
    omega
  rw [hOD] at MDEF OC
  rw [hgl] at OC y1
  obtain ⟨nl1, nl2⟩ := nlTo_bd es n
  generalize nlTo es n = cn at MDEF nl1 nl2 ⊢
  have hgN' : gN ≤ 1024 := RGG.nodes
  clear hf hbnd hfit RG hcp g0 hgN RGG HS HL0 HC0 VALS hans hGG hOD
  have G0 := hid_of w0
  have G1 := hid_of w1
  by_cases htk : TakOk es n mb b m lm
  rotate_left
  · have TC2 := hid_of (fun w' (K : Kept W2 w') => (TC.out w' K).mono (fun r w'' hp => (show Kept w' w'' ∧ r = .returned (.bool false) from ⟨hp.1, hp.2.elim (fun t => absurd t.1 htk) (fun t => t.2)⟩)))
    obtain ⟨rfl, rfl⟩ := ANS.out.2 (fun t => htk (MDEF.out.1 t).1)
    clear htk TC RC OC ANS MDEF
    go_wp2_with fail
    refine Ord.region [(0, 1), (1, 0), (2, 0), (3, 2), (4, 0), (5, 0), (6, 0), (7, 0), (8, 1), (9, 2), (10, 0), (11, 0), (12, 0), (13, 0), (14, 0), (15, 0), (16, 0), (17, 0), (18, 1), (19, 0), (22, 0), (23, 1), (24, 0), (25, 0), (26, 0), (20, 2), (21, 0), (27, 0), (28, 0)] (fun w' => Kept W2 w') (by kernel_rfl) (by kernel_rfl) (by kernel_rfl) (by kernel_rfl) (fun _ _ d _ _ h => by cases d <;> exact h) ((Kept.refl _).drewN _) ?_
    repeat
      refine Ord.step rfl (fun Ko hK => ?_)
      simp only [Ord.body]
      go_simp
      first
        | (refine hK _ _ ?_; clear hK Ko)
        | (refine ⟨_, fun w' hS => (by have c0 := hS.cell w0; have c1 := hS.cell w1; have c2 := hS.cell y0; have c3 := hS.cell y1; simp only [c0, c1, c2, c3, Result.andThen]; rfl), hK _ _ ?_⟩; clear hK Ko)
        | (go_at_call 38; refine (TC2.out _ ((Kept.refl _).drewN _)).mono ?_; clear TC2; rintro e w5 ⟨K5, rfl⟩; refine ⟨((Kept.refl _).drewN _).trans K5, hK _ _ ?_⟩; clear hK Ko)
    refine Ord.done ?_
    have KE := hid_of (KC.out.trans (((Kept.refl _).drewN 1).trans K5))
    clear K5 w0 w1 y0 y1
    go_wp2
    go_ret2
    exact ⟨rfl, KE.out⟩
  have TC2 := hid_of (fun w' (K : Kept W2 w') => (TC.out w' K).mono (fun r w'' hp => (show Kept w' w'' ∧ r = .returned (.bool true) from ⟨hp.1, hp.2.elim (fun t => t.2) (fun t => absurd htk t.1)⟩)))
  by_cases hris : RiseTo x (gN : Int) lx
  rotate_left
  · have RC2 := hid_of (fun w' (K : Kept W2 w') => (RC.out w' K).mono (fun r w'' hp => (show Kept w' w'' ∧ r = .returned (.bool false) from ⟨hp.1, hp.2.elim (fun t => absurd t.1 hris) (fun t => t.2)⟩)))
    obtain ⟨rfl, rfl⟩ := ANS.out.2 (fun t => hris (MDEF.out.1 t).2.1)
    clear htk TC RC OC ANS MDEF hris
    go_wp2_with fail
    refine Ord.region [(0, 1), (1, 0), (2, 0), (3, 2), (4, 0), (5, 0), (6, 0), (7, 0), (8, 1), (9, 2), (10, 0), (11, 0), (12, 0), (13, 0), (14, 0), (15, 0), (16, 0), (17, 0), (18, 1), (19, 0), (22, 0), (23, 1), (24, 0), (25, 0), (26, 0), (20, 2), (21, 0), (27, 0), (28, 0)] (fun w' => Kept W2 w') (by kernel_rfl) (by kernel_rfl) (by kernel_rfl) (by kernel_rfl) (fun _ _ d _ _ h => by cases d <;> exact h) ((Kept.refl _).drewN _) ?_
    repeat
      refine Ord.step rfl (fun Ko hK => ?_)
      simp only [Ord.body]
      go_simp
      first
        | (refine hK _ _ ?_; clear hK Ko)
        | (refine ⟨_, fun w' hS => (by have c0 := hS.cell w0; have c1 := hS.cell w1; have c2 := hS.cell y0; have c3 := hS.cell y1; simp only [c0, c1, c2, c3, Result.andThen]; rfl), hK _ _ ?_⟩; clear hK Ko)
        | (go_at_call 38; refine (TC2.out _ ((Kept.refl _).drewN _)).mono ?_; clear TC2; rintro e w5 ⟨K5, rfl⟩; refine ⟨((Kept.refl _).drewN _).trans K5, hK _ _ ?_⟩; clear hK Ko)
        | (go_at_call 54; refine (RC2.out _ (((Kept.refl _).drewN _).trans K5)).mono ?_; clear RC2; rintro e w6 ⟨K6, rfl⟩; refine ⟨(((Kept.refl _).drewN _).trans K5).trans K6, hK _ _ ?_⟩; clear hK Ko)
    refine Ord.done ?_
    have KE := hid_of (KC.out.trans ((((Kept.refl _).drewN 1).trans K5).trans K6))
    clear K5 K6 w0 w1 y0 y1
    go_wp2
    go_ret2
    exact ⟨rfl, KE.out⟩
  have RC2 := hid_of (fun w' (K : Kept W2 w') => (RC.out w' K).mono (fun r w'' hp => (show Kept w' w'' ∧ r = .returned (.bool true) from ⟨hp.1, hp.2.elim (fun t => t.2) (fun t => absurd hris t.1)⟩)))
  have lmb : lm ≤ 4096 := by have := htk.1.len_le; omega
  have lxb : lx ≤ 1024 := by have := hris.len_le; omega
  have FIN : Hid (ManOk es n mb b m lm x lx ↔ 2 * (cn + (lm : Int)) + OD = (gN : Int) + (lx : Int)) := ⟨fun t => (MDEF.out.1 t).2.2, fun t => MDEF.out.2 ⟨htk, hris, t⟩⟩
  obtain ⟨o1, o2⟩ := hODb.out
  have WR1 : IntKind.i64.wrap (cn + (lm : Int)) = cn + (lm : Int) := wrap_id (by omega) (by omega)
  have WR2 : IntKind.i64.wrap (2 * (cn + (lm : Int))) = 2 * (cn + (lm : Int)) := wrap_id (by omega) (by omega)
  have WR3 : IntKind.i64.wrap (2 * (cn + (lm : Int)) + OD) = 2 * (cn + (lm : Int)) + OD := wrap_id (by omega) (by omega)
  have WR4 : IntKind.i64.wrap ((gN : Int) + (lx : Int)) = (gN : Int) + (lx : Int) := wrap_id (by omega) (by omega)
  by_cases he : 2 * (cn + (lm : Int)) + OD = (gN : Int) + (lx : Int)
  · have q : (2 * (cn + (lm : Int)) + OD != (gN : Int) + (lx : Int)) = false := by simpa using he
    obtain ⟨rfl, rfl⟩ := ANS.out.1 (FIN.out.2 he)
    clear htk TC RC ANS MDEF hris FIN he o1 o2
    go_wp2_with fail
    refine Ord.region [(0, 1), (1, 0), (2, 0), (3, 2), (4, 0), (5, 0), (6, 0), (7, 0), (8, 1), (9, 2), (10, 0), (11, 0), (12, 0), (13, 0), (14, 0), (15, 0), (16, 0), (17, 0), (18, 1), (19, 0), (22, 0), (23, 1), (24, 0), (25, 0), (26, 0), (20, 2), (21, 0), (27, 0), (28, 0)] (fun w' => Kept W2 w') (by kernel_rfl) (by kernel_rfl) (by kernel_rfl) (by kernel_rfl) (fun _ _ d _ _ h => by cases d <;> exact h) ((Kept.refl _).drewN _) ?_
    repeat
      refine Ord.step rfl (fun Ko hK => ?_)
      simp only [Ord.body]
      go_simp
      first
        | (refine hK _ _ ?_; clear hK Ko)
        | (refine ⟨_, fun w' hS => (by have c0 := hS.cell w0; have c1 := hS.cell w1; have c2 := hS.cell y0; have c3 := hS.cell y1; simp only [c0, c1, c2, c3, Result.andThen]; rfl), hK _ _ ?_⟩; clear hK Ko)
        | (go_at_call 38; refine (TC2.out _ ((Kept.refl _).drewN _)).mono ?_; clear TC2; rintro e w5 ⟨K5, rfl⟩; refine ⟨((Kept.refl _).drewN _).trans K5, hK _ _ ?_⟩; clear hK Ko)
        | (go_at_call 54; refine (RC2.out _ (((Kept.refl _).drewN _).trans K5)).mono ?_; clear RC2; rintro e w6 ⟨K6, rfl⟩; refine ⟨(((Kept.refl _).drewN _).trans K5).trans K6, hK _ _ ?_⟩; clear hK Ko)
        | (go_at_call 65; refine (OC.out _ ((((Kept.refl _).drewN _).trans K5).trans K6)).mono ?_; clear OC; rintro e w7 ⟨rfl, K7⟩; refine ⟨((((Kept.refl _).drewN _).trans K5).trans K6).trans K7, hK _ _ ?_⟩; clear hK Ko)
        | ((simp only [WR1, WR2, WR3, WR4, q]))
    refine Ord.done ?_
    have KE := hid_of (KC.out.trans (((((Kept.refl _).drewN 1).trans K5).trans K6).trans K7))
    clear K5 K6 K7 w0 w1 y0 y1
    go_wp2
    go_ret2
    exact ⟨rfl, KE.out⟩
  · have q : (2 * (cn + (lm : Int)) + OD != (gN : Int) + (lx : Int)) = true := by simpa using he
    obtain ⟨rfl, rfl⟩ := ANS.out.2 (fun t => he (FIN.out.1 t))
    clear htk TC RC ANS MDEF hris FIN he o1 o2
    go_wp2_with fail
    refine Ord.region [(0, 1), (1, 0), (2, 0), (3, 2), (4, 0), (5, 0), (6, 0), (7, 0), (8, 1), (9, 2), (10, 0), (11, 0), (12, 0), (13, 0), (14, 0), (15, 0), (16, 0), (17, 0), (18, 1), (19, 0), (22, 0), (23, 1), (24, 0), (25, 0), (26, 0), (20, 2), (21, 0), (27, 0), (28, 0)] (fun w' => Kept W2 w') (by kernel_rfl) (by kernel_rfl) (by kernel_rfl) (by kernel_rfl) (fun _ _ d _ _ h => by cases d <;> exact h) ((Kept.refl _).drewN _) ?_
    repeat
      refine Ord.step rfl (fun Ko hK => ?_)
      simp only [Ord.body]
      go_simp
      first
        | (refine hK _ _ ?_; clear hK Ko)
        | (refine ⟨_, fun w' hS => (by have c0 := hS.cell w0; have c1 := hS.cell w1; have c2 := hS.cell y0; have c3 := hS.cell y1; simp only [c0, c1, c2, c3, Result.andThen]; rfl), hK _ _ ?_⟩; clear hK Ko)
        | (go_at_call 38; refine (TC2.out _ ((Kept.refl _).drewN _)).mono ?_; clear TC2; rintro e w5 ⟨K5, rfl⟩; refine ⟨((Kept.refl _).drewN _).trans K5, hK _ _ ?_⟩; clear hK Ko)
        | (go_at_call 54; refine (RC2.out _ (((Kept.refl _).drewN _).trans K5)).mono ?_; clear RC2; rintro e w6 ⟨K6, rfl⟩; refine ⟨(((Kept.refl _).drewN _).trans K5).trans K6, hK _ _ ?_⟩; clear hK Ko)
        | (go_at_call 65; refine (OC.out _ ((((Kept.refl _).drewN _).trans K5).trans K6)).mono ?_; clear OC; rintro e w7 ⟨rfl, K7⟩; refine ⟨((((Kept.refl _).drewN _).trans K5).trans K6).trans K7, hK _ _ ?_⟩; clear hK Ko)
        | ((simp only [WR1, WR2, WR3, WR4, q]))
    refine Ord.done ?_
    have KE := hid_of (KC.out.trans (((((Kept.refl _).drewN 1).trans K5).trans K6).trans K7))
    clear K5 K6 K7 w0 w1 y0 y1
    go_wp2
    go_ret2
    exact ⟨rfl, KE.out⟩
end Go.Proofs.YtpdppjngbbkbbaaDoor
namespace Go.Proofs.YtpdppjngbbkbbaaDoor
open Go.RowKit

set_option maxRecDepth 100000 in
set_option linter.unusedSimpArgs false in
set_option maxHeartbeats 4000000 in
theorem vouchGadgetsWalk (nodes : Int) (ao : Option Addr) (n cap : Nat) (es : List Ed) (bo : Option Addr) (mb bc : Nat) (b : List Int) (mo : Option Addr) (lm mc : Nat) (m : List Int) (xo : Option Addr) (lx xc : Nat) (x : List Int) (oo : Option Addr) (lo oc : Nat) (o : List Int) (w : World) (h : ERow w ao n cap es) (hB : JRow w bo mb bc b) (hJ : JRow w mo lm mc m) (hX : JRow w xo lx xc x) (_hO : JRow w oo lo oc o) :
    Calls Tryd.prog 6 #[.agg #[.int .i64 nodes, .slice ao n cap], .agg #[.slice bo mb bc, .slice mo lm mc, .slice xo lx xc, .slice oo lo oc]] w fun e w' => e = .returned (.bool true) ∧ Below w.heap.size w w' := by
  have hnot : ∀ (x : Bool) (w : World), (Op.unary .not (.bool x)).run Tryd.prog w = .ok (.bool (!x)) w := fun _ _ => rfl
  have KW : Kept w ((w.alloc (Obj.cells #[.int .i64 nodes, .slice ao n cap] 24)).alloc (Obj.cells #[.slice bo mb bc, .slice mo lm mc, .slice xo lx xc, .slice oo lo oc] 54)) := ((Kept.refl w).alloc _).alloc _
  have g0 : ((w.alloc (Obj.cells #[.int .i64 nodes, .slice ao n cap] 24)).alloc (Obj.cells #[.slice bo mb bc, .slice mo lm mc, .slice xo lx xc, .slice oo lo oc] 54)).cell? ⟨w.heap.size, 0, none⟩ = some (.int .i64 nodes) := by simp [go_sem]
  have g1 : ((w.alloc (Obj.cells #[.int .i64 nodes, .slice ao n cap] 24)).alloc (Obj.cells #[.slice bo mb bc, .slice mo lm mc, .slice xo lx xc, .slice oo lo oc] 54)).cell? ⟨w.heap.size, 1, none⟩ = some (.slice ao n cap) := by simp [go_sem]
  have x0 : ((w.alloc (Obj.cells #[.int .i64 nodes, .slice ao n cap] 24)).alloc (Obj.cells #[.slice bo mb bc, .slice mo lm mc, .slice xo lx xc, .slice oo lo oc] 54)).cell? ⟨w.heap.size + 1, 0, none⟩ = some (.slice bo mb bc) := by simp [go_sem]
  have x1 : ((w.alloc (Obj.cells #[.int .i64 nodes, .slice ao n cap] 24)).alloc (Obj.cells #[.slice bo mb bc, .slice mo lm mc, .slice xo lx xc, .slice oo lo oc] 54)).cell? ⟨w.heap.size + 1, 1, none⟩ = some (.slice mo lm mc) := by simp [go_sem]
  have x2 : ((w.alloc (Obj.cells #[.int .i64 nodes, .slice ao n cap] 24)).alloc (Obj.cells #[.slice bo mb bc, .slice mo lm mc, .slice xo lx xc, .slice oo lo oc] 54)).cell? ⟨w.heap.size + 1, 2, none⟩ = some (.slice xo lx xc) := by simp [go_sem]
  obtain ⟨N', l', z, hs⟩ : ∃ a1 b1 c1, gadSize nodes es n b mb = (a1, b1, c1) := ⟨_, _, _, rfl⟩
  obtain ⟨L0, hL0⟩ : ∃ L, gadEs nodes es n b mb = L := ⟨_, rfl⟩
  obtain ⟨cnt0, hC0⟩ : ∃ c, gadCnt nodes es n b mb = c := ⟨_, rfl⟩
  obtain ⟨v1, e1, A1⟩ : ∃ v c, manAns nodes es n b mb m lm x lx = (v, c) := ⟨_, _, rfl⟩
  have HE := hid_of h
  have HB := hid_of hB
  have HJ := hid_of hJ
  have HX := hid_of hX
  have HS := hid_of hs
  have HL0 := hid_of hL0
  have HC0 := hid_of hC0
  have HA1 := hid_of A1
  clear h hB hJ hX _hO hs hL0 hC0 A1
  go_enter Tryd.func6, Tryd.ntmps6
  go_wp2_with fail
  generalize (w.alloc (Obj.cells #[.int .i64 nodes, .slice ao n cap] 24)).alloc (Obj.cells #[.slice bo mb bc, .slice mo lm mc, .slice xo lx xc, .slice oo lo oc] 54) = W1 at KW g0 g1 x0 x1 x2 ⊢
  have KWH := hid_of KW
  refine (awake_calls W1).mono ?_
  rintro v w2 ⟨rfl, K2⟩
  have K := hid_of (KWH.out.trans K2)
  replace g0 := K2.cell g0
  replace g1 := K2.cell g1
  replace x0 := K2.cell x0
  replace x1 := K2.cell x1
  replace x2 := K2.cell x2
  clear K2 KW KWH
  go_wp2_with fail
  refine (gadget2_calls nodes ao n cap es bo mb bc b w2 (HE.out.kept K.out) (HB.out.kept K.out) N' l' z HS L0 HL0).mono ?_
  rintro v w3 ⟨⟨ho, hc, rfl, ER⟩, K2⟩
  have K3 := hid_of (K.out.trans K2)
  replace g0 := K2.cell g0
  replace g1 := K2.cell g1
  replace x0 := K2.cell x0
  replace x1 := K2.cell x1
  replace x2 := K2.cell x2
  obtain ⟨hb, hhb⟩ : ∃ hb, w3.heap.size = hb := ⟨_, rfl⟩
  have KB : Kept w3 (w3.alloc (Obj.cells #[.int .i64 N', .slice ho l' hc] 24)) := (Kept.refl w3).alloc _
  have y0 : (w3.alloc (Obj.cells #[.int .i64 N', .slice ho l' hc] 24)).cell? ⟨hb, 0, none⟩ = some (.int .i64 N') := by simp [go_sem, ← hhb]
  have y1 : (w3.alloc (Obj.cells #[.int .i64 N', .slice ho l' hc] 24)).cell? ⟨hb, 1, none⟩ = some (.slice ho l' hc) := by simp [go_sem, ← hhb]
  have E1 := hid_of (ER.kept KB)
  replace g0 := KB.cell g0
  replace g1 := KB.cell g1
  replace x0 := KB.cell x0
  replace x1 := KB.cell x1
  replace x2 := KB.cell x2
  have K4 := hid_of (K3.out.trans KB)
  clear K2 K ER
  go_upto_region 4 with fail
  generalize w3.alloc (Obj.cells #[.int .i64 N', .slice ho l' hc] 24) = W4 at g0 g1 x0 x1 x2 y0 y1 E1 K4 ⊢
  clear KB K3 hhb
  go_wp2_with fail
  refine (gadgetR_calls nodes ao n cap es bo mb bc b W4 (HE.out.kept K4.out) (HB.out.kept K4.out) N' l' z HS L0 HL0 cnt0 HC0).mono ?_
  rintro v w5 ⟨⟨go', gc, rfl, ER⟩, K2⟩
  have K5 := hid_of (K4.out.trans K2)
  have E15 := hid_of (E1.out.kept K2)
  replace g0 := K2.cell g0
  replace g1 := K2.cell g1
  replace x0 := K2.cell x0
  replace x1 := K2.cell x1
  replace x2 := K2.cell x2
  replace y0 := K2.cell y0
  replace y1 := K2.cell y1
  obtain ⟨xb, hxb⟩ : ∃ xb, w5.heap.size = xb := ⟨_, rfl⟩
  have KB : Kept w5 (w5.alloc (Obj.cells #[.int .i64 N', .slice go' l' gc] 24)) := (Kept.refl w5).alloc _
  have z0 : (w5.alloc (Obj.cells #[.int .i64 N', .slice go' l' gc] 24)).cell? ⟨xb, 0, none⟩ = some (.int .i64 N') := by simp [go_sem, ← hxb]
  have z1 : (w5.alloc (Obj.cells #[.int .i64 N', .slice go' l' gc] 24)).cell? ⟨xb, 1, none⟩ = some (.slice go' l' gc) := by simp [go_sem, ← hxb]
  have E2 := hid_of (ER.kept KB)
  have E16 := hid_of (E15.out.kept KB)
  replace g0 := KB.cell g0
  replace g1 := KB.cell g1
  replace x0 := KB.cell x0
  replace x1 := KB.cell x1
  replace x2 := KB.cell x2
  replace y0 := KB.cell y0
  replace y1 := KB.cell y1
  have K6 := hid_of (K5.out.trans KB)
  clear K2 K4 ER E1 E15
  go_upto_region 5 with fail
  generalize w5.alloc (Obj.cells #[.int .i64 N', .slice go' l' gc] 24) = W6 at g0 g1 x0 x1 x2 y0 y1 z0 z1 E2 E16 K6 ⊢
  clear KB K5 hxb
  go_wp2_with fail
  refine (many_calls nodes ao n cap es bo mb bc b mo lm mc m xo lx xc x W6 (HE.out.kept K6.out) (HB.out.kept K6.out) (HJ.out.kept K6.out) (HX.out.kept K6.out) v1 e1 HA1).mono ?_
  rintro v w7 ⟨rfl, K2⟩
  have K7 := hid_of (K6.out.trans K2)
  have KM := hid_of K2
  replace g0 := K2.cell g0
  replace g1 := K2.cell g1
  replace x0 := K2.cell x0
  replace x1 := K2.cell x1
  replace x2 := K2.cell x2
  replace y0 := K2.cell y0
  replace y1 := K2.cell y1
  replace z0 := K2.cell z0
  replace z1 := K2.cell z1
  clear K2 K6
  go_wp2_with fail
  refine (manyR_calls nodes ao n cap es bo mb bc b mo lm mc m xo lx xc x w7 (HE.out.kept K7.out) (HB.out.kept K7.out) (HJ.out.kept K7.out) (HX.out.kept K7.out) v1 e1 HA1).mono ?_
  rintro v w8 ⟨rfl, K2⟩
  have K8 := hid_of (K7.out.trans K2)
  have KN := hid_of (KM.out.trans K2)
  replace y0 := K2.cell y0
  replace y1 := K2.cell y1
  replace z0 := K2.cell z0
  replace z1 := K2.cell z1
  have SC := hid_of (same_calls N' ho go' l' hc gc L0 w8 (E16.out.kept KN.out) (E2.out.kept KN.out))
  have q1 : (v1 == v1) = true := by simp
  have q2 : (e1 == e1) = true := by simp
  have q3 : (z == z) = true := by simp
  clear K2 K7 KM KN E16 E2 g0 g1 x0 x1 x2 HS HL0 HC0 HA1 HE HB HJ HX
  go_wp2_with fail
  refine SC.out.mono ?_
  rintro v w9 ⟨rfl, K9⟩
  have KF := hid_of (K8.out.trans K9)
  clear K9 K8 SC y0 y1 z0 z1
  go_wp2
  go_ret
  exact ⟨rfl, KF.out⟩
end Go.Proofs.YtpdppjngbbkbbaaDoor
namespace Go.Proofs.YtpdppjngbbkbbaaDoor.vouchGadgets
open Go.ChangeShapes Go.WideShapes Go.ChangeAt Go.RowKit Go.Joins Go.Deep
set_option linter.unusedVariables false

theorem own : ownKnob Tryd.prog.godebug = none := by kernel_rfl
theorem laidOut : laidOutB Tryd.prog = true := by kernel_rfl

set_option maxRecDepth 100000 in
theorem lifted (os : Os) (started : os.Started) (H : Type) (enc : TypeId × Value → H) :
    ReturnsInHanded {} Tryd.checked os 6 .any (fun w args => (Rows.vouchGadgetsSpec.pre enc Tryd.prog Tryd.f6 [] false w args ∧ laidMetH Tryd.prog [("math/bits.deBruijn64tab", Rows.laid_math_bits_deBruijn64tab)] w) ∧ sizedMet enc Tryd.prog Tryd.f6 (OpenSpec.ofChange Rows.vouchGadgetsSpec) false w args)
      (Rows.vouchGadgetsSpec.post enc Tryd.prog Tryd.f6 false true false false) := by
  refine returnsInHanded_of_change_and (C := Tryd.checked) (X := fun w _ => laidMetH Tryd.prog [("math/bits.deBruijn64tab", Rows.laid_math_bits_deBruijn64tab)] w) (fun _ _ _ hh h => h.of_heap hh) own started (by kernel_rfl) Tryd.func6
    (ChangeSpec.witness_shaped (enc := enc) (C := Tryd.checked) (os := os) (X := fun w _ => laidMetH Tryd.prog [("math/bits.deBruijn64tab", Rows.laid_math_bits_deBruijn64tab)] w) false (World.doorLaid Tryd.prog 400 os) #[.agg #[.int .i64 0, .slice none 0 0], .agg #[.slice none 0 0, .slice none 0 0, .slice none 0 0, .slice none 0 0]] 8 rfl (World.shaped_of_RefB (by kernel_rfl) (by kernel_rfl)) (by kernel_rfl) (by kernel_rfl) (by kernel_rfl) (door_met os _)) ?_
  intro W base args ds gs before hval0 hW _ hsz0 hL _
  have hval : ∀ (j : Nat) t v, Tryd.f6.params[j]? = some t → args[j]? = some v → Value.okWide Tryd.prog W .any base t v := hval0
  have hW' := hW
  obtain ⟨p, q, hA0, hV, rfl, hfz, hnd⟩ := hW
  have hA : DataW.TrodAll enc Tryd.prog W 0 (fun _ => true) true Tryd.f6.params.toList args.toList ds p := hA0
  rw [Tryd.params6] at hA hval
  obtain ⟨v0, vs0, d0, ds0, p0, q0, hargs, rfl, rfl, h0, r0⟩ := trodAll_cons hA
  obtain ⟨v1, vs1, d1, ds1, p1, q1, rfl, rfl, rfl, h1, r1⟩ := trodAll_cons r0
  obtain ⟨rfl, rfl, rfl⟩ := trodAll_nil r1
  obtain rfl : args = #[v0, v1] := by cases args; simp_all
  obtain ⟨rfl, rfl⟩ := trodVars_none hV
  have k0 := h0
  have lt0 : ∀ x ∈ p0, x.block < W.heap.size := by obtain ⟨m, hm⟩ := k0; exact DataW.trod_lt m _ _ _ hm
  obtain ⟨c00, c01, y00, y01, m0, rfl, rfl, rfl, hy00, hy01⟩ := open_agg2 Tryd.underlying24 (by kernel_rfl) cellsG (hval 0 24 v0 rfl rfl) h0
  obtain ⟨a00, e00, rfl, w00⟩ := DataW.trod_int Tryd.underlying3 hy00
  simp at e00
  subst e00
  obtain ⟨ao0, len0, cap0, e01⟩ := slice_form Tryd.underlying22 hy01
  simp at e01
  subst e01
  obtain ⟨⟨es0, hE0, _⟩, hnil0, hbulk0⟩ := open_edges hy01
  have k1 := h1
  have lt1 : ∀ x ∈ p1, x.block < W.heap.size := by obtain ⟨m, hm⟩ := k1; exact DataW.trod_lt m _ _ _ hm
  obtain ⟨c10, c11, c12, c13, y10, y11, y12, y13, m1, rfl, rfl, rfl, hy10, hy11, hy12, hy13⟩ := open_agg4 Tryd.underlying54 (by kernel_rfl) (by kernel_rfl) (hval 1 54 v1 rfl rfl) h1
  obtain ⟨ao10, len10, cap10, e10⟩ := slice_form Tryd.underlying25 hy10
  simp at e10
  subst e10
  obtain ⟨xs10, hR10⟩ := open_ints hy10
  obtain ⟨ao11, len11, cap11, e11⟩ := slice_form Tryd.underlying25 hy11
  simp at e11
  subst e11
  obtain ⟨xs11, hR11⟩ := open_ints hy11
  obtain ⟨ao12, len12, cap12, e12⟩ := slice_form Tryd.underlying25 hy12
  simp at e12
  subst e12
  obtain ⟨xs12, hR12⟩ := open_ints hy12
  obtain ⟨ao13, len13, cap13, e13⟩ := slice_form Tryd.underlying25 hy13
  simp at e13
  subst e13
  obtain ⟨xs13, hR13⟩ := open_ints hy13
  clear hA0 hval0
  refine (vouchGadgetsWalk a00 ao0 len0 cap0 es0 ao10 len10 cap10 xs10 ao11 len11 cap11 xs11 ao12 len12 cap12 xs12 ao13 len13 cap13 xs13 W hE0 hR10 hR11 hR12 hR13).mono fun e W' ⟨he, bel⟩ => ?_
  subst he
  exact ⟨_, rfl, _, _, _, [], _, [], hW', (trodAll_cons_mk (shut_bool Tryd.underlying4 _) trodAll_mk0), (trodAll_cons_mk (Below.trod laidOut (by kernel_rfl) (of_decide_eq_true (by kernel_rfl)) k0 bel lt0) (trodAll_cons_mk (Below.trod laidOut (by kernel_rfl) (of_decide_eq_true (by kernel_rfl)) k1 bel lt1) trodAll_mk0)), rfl, bel.frame _, fun h => by cases h⟩

theorem over : Rows.VouchGadgetsSaid :=
  OpenClaim.holds_of_wide 6 Tryd.f6 rfl rfl rfl rfl rfl rfl rfl ⟨rfl, rfl, rfl, rfl, rfl⟩ rfl rfl rfl rfl rfl (by kernel_rfl) Tryd.func6 (by kernel_rfl)
    (of_decide_eq_true (by kernel_rfl)) (by unfold Func.isWrapper; first | (rw [if_pos (by decide +kernel)]; kernel_rfl) | (rw [if_neg (by decide +kernel)]; exact ⟨rfl, rfl⟩))
    (fun os started H enc _ => lifted os started H enc)
end Go.Proofs.YtpdppjngbbkbbaaDoor.vouchGadgets

namespace Go.Proofs.YtpdppjngbbkbbaaDoor

/-- The statement: the tied card. -/
theorem vouchGadgetsHolds : Rows.VouchGadgetsCardSaid :=
  Claim7.holds_tied_plain_at .later [] [.data] true (true, "1ee77a617945d33e3d75f6f835dbd8aff6fac7be2c3d7c0de74290fe8fe1eaec") true
    vouchGadgets.over (fun _ h => by cases h) (by kernel_rfl) (fun _ h => by cases h) vouchGadgets_row_tie rfl ⟨rfl, rfl⟩ (by kernel_rfl) rfl
    (fun f fn hf hfn => by
      obtain rfl : f = 6 := Option.some.inj ((show Tryd.prog.funcNamed "compass/compasslaw12.VouchGadgets" = some 6 by kernel_rfl).symm.trans hf) |>.symm
      obtain rfl : fn = Tryd.f6 := (Option.some.inj (Tryd.func6.symm.trans hfn)).symm
      exact ⟨by kernel_rfl, fun j t ht => by
        rw [Tryd.params6] at ht
        have hm : t ∈ [24, 54] := by simpa using Array.mem_of_getElem? ht
        have hall : ([24, 54].all fun u => !Tryd.prog.wantsStandIn u) = true := by kernel_rfl
        exact (show Tryd.prog.wantsStandIn t = false by simpa using List.all_eq_true.1 hall t hm)⟩)
    (by kernel_rfl)

end Go.Proofs.YtpdppjngbbkbbaaDoor

/- One text of GraphOpen, VqO, VqD, VnB, VqM, VouchGadgetFits0. -/
import Derived.Test.YtpdppjngbbkbbaaDoorEdgeB
import Derived.WalkKit
import Derived.ProofKit
import Derived.SizedLaws
import Derived.OpenShut
import Derived.ShutString
import Derived.ChangeOld
import Derived.Below
import Derived.Lib.SmallJoins
import Derived.Test.YtpdppjngbbkbbaaDoorVoA
import Derived.LaidMore
import Derived.Stop.Joined
import Derived.Test.YtpdppjngbbkbbaaDoorVnA
import Derived.Test.YtpdppjngbbkbbaaDoorTie
import Derived.Test.YtpdppjngbbkbbaaDoorCards
import Derived.SevenTiedAt
namespace Go.Proofs.YtpdppjngbbkbbaaDoor
open Go.ChangeShapes Go.WideShapes Go.ChangeAt Go.RowKit Go.Joins Go.Deep

theorem cellsE : Tryd.prog.cellsOf 86 = 4 := by kernel_rfl
theorem cellsG : Tryd.prog.cellsOf 24 = 2 := by kernel_rfl
theorem cellsI : Tryd.prog.cellsOf 3 = 1 := by kernel_rfl
theorem cellsL : Tryd.prog.cellsOf 2 = 1 := by kernel_rfl
theorem bytesE : Tryd.prog.bytesOf 86 = 32 := by kernel_rfl

def i64ok (z : Int) : Prop := (Lit.int .i64 z).wf = true
def EdOk (e : Ed) : Prop := i64ok e.f ∧ i64ok e.t ∧ i64ok e.c ∧ i64ok e.k

theorem list4 {α : Type} {l : List α} (h : l.length = 4) : ∃ a b c d, l = [a, b, c, d] := by
  match l, h with
  | [a, b, c, d], _ => exact ⟨a, b, c, d, rfl⟩

/-- One edge's four cells. -/
theorem open_edge {H : Type} {enc : TypeId × Value → H} {W : World} {base : Nat} {sp : Nat → Bool} {held : Bool} {fuel : Nat} {cs : List Value} {x : DataW H × List MemPlace} (h : DataW.trod enc Tryd.prog W base sp held fuel 86 cs = some x) :
    ∃ e : Ed, cs = [.int .i64 e.f, .int .i64 e.t, .int .i64 e.c, .int .i64 e.k] ∧ EdOk e := by
  obtain ⟨y0, y1, y2, y3, n, _, hl, h0, h1, h2, h3⟩ := trod_struct4 Tryd.underlying86 h
  rw [cellsE] at hl
  obtain ⟨a, b, c, d, rfl⟩ := list4 hl
  simp only [cellsI, cellsL] at h0 h1 h2 h3
  obtain ⟨z0, e0, _, w0⟩ := DataW.trod_int Tryd.underlying3 h0
  obtain ⟨z1, e1, _, w1⟩ := DataW.trod_int Tryd.underlying3 h1
  obtain ⟨z2, e2, _, w2⟩ := DataW.trod_int Tryd.underlying2 h2
  obtain ⟨z3, e3, _, w3⟩ := DataW.trod_int Tryd.underlying2 h3
  simp at e0 e1 e2 e3
  subst e0 e1 e2 e3
  exact ⟨⟨z0, z1, z2, z3⟩, rfl, w0, w1, w2, w3⟩

/-- The row of edges. -/
theorem open_edges {H : Type} {enc : TypeId × Value → H} {W : World} {base : Nat} {held : Bool} {fuel : Nat} {ao : Option Addr} {len cap : Nat} {x : DataW H × List MemPlace} (h : DataW.trod enc Tryd.prog W base (fun _ => true) held fuel 22 [.slice ao len cap] = some x) :
    (∃ es : List Ed, ERow W ao len cap es ∧ ∀ e ∈ es, EdOk e) ∧ (ao = none → len = 0 ∧ cap = 0) ∧ (x.1 = .nil ∧ len = 0 ∨ ∃ elems spare, x.1 = .slice elems spare ∧ elems.length = len ∧ elems.length + spare.length = cap) := by
  rcases open_slice Tryd.underlying22 h with ⟨hcs, rfl⟩ | ⟨a, l, c, m, n, D, Pl, hcs, _, hl, hm, hmm, rfl, hel⟩
  · simp only [List.cons.injEq, Value.slice.injEq, and_true] at hcs
    obtain ⟨rfl, rfl, rfl⟩ := hcs
    exact ⟨⟨[], ⟨rfl, by omega, by unfold maxLen; omega, fun h => by omega⟩, fun e he => by cases he⟩, fun _ => ⟨rfl, rfl⟩, .inl ⟨rfl, rfl⟩⟩
  · simp only [List.cons.injEq, Value.slice.injEq, and_true] at hcs
    obtain ⟨rfl, rfl, rfl⟩ := hcs
    simp only [if_true] at hmm
    subst hmm
    rw [cellsE] at hel
    have hx : ∀ i, i < len → ∃ e : Ed, EdOk e ∧ W.cell? (a.add (i * 4)) = some (.int .i64 e.f) ∧ W.cell? (a.add (i * 4 + 1)) = some (.int .i64 e.t) ∧ W.cell? (a.add (i * 4 + 2)) = some (.int .i64 e.c) ∧ W.cell? (a.add (i * 4 + 3)) = some (.int .i64 e.k) := fun i hi => by
      obtain ⟨cs', hc, ht⟩ := hel i (by omega)
      obtain ⟨e, rfl, hok⟩ := open_edge ht
      obtain ⟨_, _, hg⟩ := World.cells?_some hc
      refine ⟨e, hok, ?_, ?_, ?_, ?_⟩
      · have := hg 0 (by omega); rw [add_add] at this; simpa using this
      · have := hg 1 (by omega); rw [add_add] at this; simpa using this
      · have := hg 2 (by omega); rw [add_add] at this; simpa using this
      · have := hg 3 (by omega); rw [add_add] at this; simpa using this
    haveI : Inhabited Ed := ⟨⟨0, 0, 0, 0⟩⟩
    obtain ⟨F, hF⟩ := choose_lt hx
    have hat : ∀ i, i < len → edAt ((List.range len).map F) i = F i := fun i hi => by simp [edAt, List.getD, hi]
    refine ⟨⟨(List.range len).map F, ⟨by simp, hl, hm, fun hn => ?_⟩, fun e he => ?_⟩, fun h => (by cases h), .inr ⟨_, _, rfl, by simp, by simp; omega⟩⟩
    · obtain ⟨b, off, spot⟩ := a
      have h0 := (hF 0 hn).2.1
      have hspot : spot = none := by simpa [Addr.add] using World.cell?_spot h0
      subst hspot
      have ga : ∀ m, (⟨b, off, none⟩ : Addr).add m = ⟨b, off + m, none⟩ := fun m => by
        by_cases hm : m = 0
        · subst hm; simp [Addr.add]
        · simp [Addr.add, hm]
      refine ⟨b, off, rfl, fun i hi => ?_⟩
      rw [hat i hi]
      obtain ⟨_, t1, t2, t3, t4⟩ := hF i hi
      rw [ga] at t1 t2 t3 t4
      exact ⟨t1, t2, t3, t4⟩
    · simp only [List.mem_map, List.mem_range] at he
      obtain ⟨i, hi, rfl⟩ := he
      exact (hF i hi).1
end Go.Proofs.YtpdppjngbbkbbaaDoor
namespace Go.Proofs.YtpdppjngbbkbbaaDoor
open Go.ChangeShapes Go.WideShapes Go.ChangeAt Go.RowKit Go.Joins Go.Deep

theorem row_at {a : Addr} (m : Nat) (h : a.spot = none) : a.add m = ⟨a.block, a.off + m, none⟩ := by
  obtain ⟨b, off, spot⟩ := a
  simp only at h
  subst h
  by_cases hm : m = 0
  · subst hm; simp [Addr.add]
  · simp [Addr.add, hm]

theorem open_longs {H : Type} {enc : TypeId × Value → H} {W : World} {base : Nat} {held : Bool} {fuel : Nat} {ao : Option Addr} {len cap : Nat} {x : DataW H × List MemPlace} (h : DataW.trod enc Tryd.prog W base (fun _ => true) held fuel 26 [.slice ao len cap] = some x) : ∃ zs : List Int, JRow W ao len cap zs := by
  rcases open_slice Tryd.underlying26 h with ⟨hcs, rfl⟩ | ⟨a, l, c, m, n, D, Pl, hcs, _, hl, hm, hmm, rfl, hel⟩
  · simp only [List.cons.injEq, Value.slice.injEq, and_true] at hcs
    obtain ⟨rfl, rfl, rfl⟩ := hcs
    exact ⟨[], ⟨rfl, by omega, by unfold maxLen; omega, fun h => by omega⟩⟩
  · simp only [List.cons.injEq, Value.slice.injEq, and_true] at hcs
    obtain ⟨rfl, rfl, rfl⟩ := hcs
    simp only [if_true] at hmm
    subst hmm
    rw [cellsL] at hel
    have hx : ∀ i, i < len → ∃ z : Int, W.cell? (a.add (i * 1)) = some (.int .i64 z) := fun i hi => by
      obtain ⟨cs', hc, ht⟩ := hel i (by omega)
      obtain ⟨z, rfl, _, _⟩ := DataW.trod_int Tryd.underlying2 ht
      obtain ⟨_, _, hg⟩ := World.cells?_some hc
      exact ⟨z, by have := hg 0 (by simp); rw [add_add] at this; simpa using this⟩
    obtain ⟨F, hF⟩ := choose_lt hx
    refine ⟨(List.range len).map F, ⟨by simp, hl, hm, fun hn => ?_⟩⟩
    have hsp : a.spot = none := by
      have := World.cell?_spot (hF 0 hn)
      simpa [Addr.add] using this
    refine ⟨a.block, a.off, by cases a; simp_all, fun i hi => ?_⟩
    have := hF i hi
    rw [row_at _ hsp, Nat.mul_one] at this
    rw [this]
    simp [List.getD, hi]

theorem open_ints {H : Type} {enc : TypeId × Value → H} {W : World} {base : Nat} {held : Bool} {fuel : Nat} {ao : Option Addr} {len cap : Nat} {x : DataW H × List MemPlace} (h : DataW.trod enc Tryd.prog W base (fun _ => true) held fuel 25 [.slice ao len cap] = some x) : ∃ zs : List Int, JRow W ao len cap zs := by
  rcases open_slice Tryd.underlying25 h with ⟨hcs, rfl⟩ | ⟨a, l, c, m, n, D, Pl, hcs, _, hl, hm, hmm, rfl, hel⟩
  · simp only [List.cons.injEq, Value.slice.injEq, and_true] at hcs
    obtain ⟨rfl, rfl, rfl⟩ := hcs
    exact ⟨[], ⟨rfl, by omega, by unfold maxLen; omega, fun h => by omega⟩⟩
  · simp only [List.cons.injEq, Value.slice.injEq, and_true] at hcs
    obtain ⟨rfl, rfl, rfl⟩ := hcs
    simp only [if_true] at hmm
    subst hmm
    rw [cellsI] at hel
    have hx : ∀ i, i < len → ∃ z : Int, W.cell? (a.add (i * 1)) = some (.int .i64 z) := fun i hi => by
      obtain ⟨cs', hc, ht⟩ := hel i (by omega)
      obtain ⟨z, rfl, _, _⟩ := DataW.trod_int Tryd.underlying3 ht
      obtain ⟨_, _, hg⟩ := World.cells?_some hc
      exact ⟨z, by have := hg 0 (by simp); rw [add_add] at this; simpa using this⟩
    obtain ⟨F, hF⟩ := choose_lt hx
    refine ⟨(List.range len).map F, ⟨by simp, hl, hm, fun hn => ?_⟩⟩
    have hsp : a.spot = none := by
      have := World.cell?_spot (hF 0 hn)
      simpa [Addr.add] using this
    refine ⟨a.block, a.off, by cases a; simp_all, fun i hi => ?_⟩
    have := hF i hi
    rw [row_at _ hsp, Nat.mul_one] at this
    rw [this]
    simp [List.getD, hi]

end Go.Proofs.YtpdppjngbbkbbaaDoor
namespace Go.Proofs.YtpdppjngbbkbbaaDoor
open Go.ChangeShapes Go.WideShapes Go.ChangeAt Go.RowKit

theorem door_met (os : Os) (args : Array Value) : laidMetH Tryd.prog [("math/bits.deBruijn64tab", Rows.laid_math_bits_deBruijn64tab)] ((World.doorLaid Tryd.prog 400 os).forCall (fun _ _ => 0) ⟨#[], args, []⟩).memory :=
  laidMetH_of_parts3 (fuel := 8) (laidMet_of_run' 8 (by kernel_rfl) (by kernel_rfl)) (by kernel_rfl) (by kernel_rfl)
end Go.Proofs.YtpdppjngbbkbbaaDoor
namespace Go.Proofs.YtpdppjngbbkbbaaDoor
open Go.RowKit

/-- The numbers below n whose bits are set. -/
def bl (j : Nat) : Nat → List Int
  | 0 => []
  | i + 1 => bl j i ++ (bif decide (j / 2 ^ i % 2 = 1) then [(i : Int)] else [])
theorem bl_succ (j i : Nat) : bl j (i + 1) = bl j i ++ (bif decide (j / 2 ^ i % 2 = 1) then [(i : Int)] else []) := rfl
theorem zAt_left {a b : List Int} {i : Nat} (h : i < a.length) : zAt (a ++ b) i = zAt a i := by simp [zAt, List.getD, List.getElem?_append_left h]
theorem zAt_snoc (a : List Int) (x : Int) : zAt (a ++ [x]) a.length = x := by simp [zAt, List.getD]
theorem rise_snoc {a : List Int} {x : Int} (h : RiseTo a x a.length) (hx : 0 ≤ x) : RiseTo (a ++ [x]) (x + 1) (a.length + 1) := by
  intro j hj
  have last : lastOf (a ++ [x]) j = lastOf a j := by
    unfold lastOf
    split
    · rfl
    · exact zAt_left (by omega)
  rw [last]
  by_cases e : j < a.length
  · rw [zAt_left e]
    have := h j e
    omega
  · obtain rfl : j = a.length := by omega
    rw [zAt_snoc]
    refine ⟨?_, by omega⟩
    unfold lastOf
    split
    · omega
    · rename_i q hq
      exact (h q (by omega)).2
theorem inTo_snoc (a : List Int) (x : Int) (v : Nat) : inTo (a ++ [x]) (a.length + 1) v = (inTo a a.length v || (x == (v : Int))) := by
  rw [inTo_succ, zAt_snoc]
  have : inTo (a ++ [x]) a.length v = inTo a a.length v := by
    rw [Bool.eq_iff_iff, inTo_iff, inTo_iff]
    constructor
    · rintro ⟨j, hj, e⟩; exact ⟨j, hj, by rw [zAt_left hj] at e; exact e⟩
    · rintro ⟨j, hj, e⟩; exact ⟨j, hj, by rw [zAt_left hj]; exact e⟩
  rw [this]
  by_cases e : (v : Int) = x
  · simp [e]
  · have : (x == (v : Int)) = false := by rw [beq_eq_false_iff_ne]; exact fun t => e t.symm
    rw [if_neg e, this, Bool.or_false]
theorem bl_ok (j : Nat) : ∀ n : Nat, RiseTo (bl j n) (n : Int) (bl j n).length ∧ ∀ i, inTo (bl j n) (bl j n).length i = (decide (i < n) && decide (j / 2 ^ i % 2 = 1)) := by
  intro n
  induction n with
  | zero => exact ⟨fun i hi => by simp [bl] at hi, fun i => by simp [bl, inTo]⟩
  | succ n ih =>
    obtain ⟨h1, h2⟩ := ih
    rw [bl_succ]
    cases hb : decide (j / 2 ^ n % 2 = 1) with
    | false =>
      simp only [cond_false, List.append_nil]
      refine ⟨fun i hi => ⟨(h1 i hi).1, by have := (h1 i hi).2; omega⟩, fun i => ?_⟩
      rw [h2]
      by_cases e : i = n
      · subst e; simp [hb]
      · rw [show decide (i < n + 1) = decide (i < n) from by rw [decide_eq_decide]; omega]
    | true =>
      simp only [cond_true]
      rw [List.length_append, List.length_singleton]
      refine ⟨by have := rise_snoc h1 (by omega); exact_mod_cast this, fun i => ?_⟩
      rw [inTo_snoc, h2]
      by_cases e : i = n
      · subst e
        simp [hb]
      · have : ((n : Int) == (i : Int)) = false := by rw [beq_eq_false_iff_ne]; omega
        rw [this, Bool.or_false, show decide (i < n + 1) = decide (i < n) from by rw [decide_eq_decide]; omega]
theorem bl_len (j : Nat) : ∀ n : Nat, (bl j n).length ≤ n := by
  intro n
  induction n with
  | zero => exact Nat.le_refl _
  | succ n ih => rw [bl_succ, List.length_append]; cases decide (j / 2 ^ n % 2 = 1) <;> simp <;> omega

/-- The bits of a set. -/
theorem bits_of (I : Nat → Bool) {n : Nat} (hn : n ≤ 3) (hI : ∀ i, I i = true → i < n) : ∃ j, j < 2 ^ n ∧ ∀ i, i < n → decide (j / 2 ^ i % 2 = 1) = I i := by
  have f : ∀ i, ¬ i < n → I i = false := fun i h => by
    cases t : I i with
    | false => rfl
    | true => exact absurd (hI i t) h
  refine ⟨(cond (I 0) 1 0) + (cond (I 1) 2 0) + (cond (I 2) 4 0), ?_, fun i hi => ?_⟩
  · have h3 : n = 0 ∨ n = 1 ∨ n = 2 ∨ n = 3 := by omega
    rcases h3 with rfl | rfl | rfl | rfl
    · rw [f 0 (by omega), f 1 (by omega), f 2 (by omega)]; decide
    · rw [f 1 (by omega), f 2 (by omega)]; cases I 0 <;> decide
    · rw [f 2 (by omega)]; cases I 0 <;> cases I 1 <;> decide
    · cases I 0 <;> cases I 1 <;> cases I 2 <;> decide
  · have h3 : i = 0 ∨ i = 1 ∨ i = 2 := by omega
    rcases h3 with rfl | rfl | rfl <;> cases I 0 <;> cases I 1 <;> cases I 2 <;> decide

/-- Edges that can be taken make a matching of the gadget. -/
theorem gad_ge {es : List Ed} {N n : Nat} (RG : Right N n es) {b : List Int} {mb : Nat} (hB : BndOk b mb N) {o : List Int} {lo : Nat} (hO : TakOk es n N b o lo) : nlTo es n + (lo : Int) ≤ (mostN (gadTo (cpyOf es n b) N es n) : Int) := by
  have hcp : CpOk (cpyOf es n b) N := fun v hv => cpyOf_bd RG.edges hB hv
  have hI : ∀ k, inTo o lo k = true → lp es k = false := fun k hk => by
    obtain ⟨j, hj, e⟩ := inTo_iff.1 hk
    have := hO.2.1 j hj
    unfold frm tto at this
    rw [e, Int.toNat_natCast] at this
    unfold lp
    rw [beq_eq_false_iff_ne]
    exact this
  have ut : ∀ v, useTo es (inTo o lo) n v = takTo es o lo v := fun v => by
    rw [use_sum, tak_sum]
    exact sm_list (fun i => (if (edAt es i).f = (v : Int) then 1 else 0) + (if (edAt es i).t = (v : Int) then 1 else 0)) hO.1 lo (Nat.le_refl _)
  have hu : ∀ v, v < N → useTo es (inTo o lo) n v ≤ cpyOf es n b v := fun v hv => by
    have a := hO.2.2 v hv
    have c := use_ends hI v n
    rw [← ut v] at a
    unfold cpyOf
    split <;> omega
  have one : One (gpTo (cpyOf es n b) N es (inTo o lo) n) := fun v => (ginv hcp RG.ends hI hu n (Nat.le_refl _)).1 v
  have len := gpTo_len (cp := cpyOf es n b) (N := N) hI n
  have cnt : sm (fun j => if inTo o lo j then (1 : Int) else 0) n = (lo : Int) := by
    rw [sm_list (fun _ => 1) hO.1 lo (Nat.le_refl _), sm_one]
  rw [cnt] at len
  have ine : ∀ k, k ≤ n → InE (gadTo (cpyOf es n b) N es n) (gpTo (cpyOf es n b) N es (inTo o lo) k) := by
    intro k
    induction k with
    | zero => intro _ p hp; cases hp
    | succ k ih =>
      intro hk p hp
      rw [gpTo_succ] at hp
      rcases List.mem_append.1 hp with hp | hp
      rotate_left
      · exact ih (by omega) p hp
      have hl : lp es k = false := by
        cases hl : lp es k with
        | false => rfl
        | true => unfold segOf at hp; rw [if_pos hl] at hp; cases hp
      obtain ⟨e1, e2, e3, e4⟩ := RG.ends k (by omega)
      have sub : ∀ e, e ∈ gadOf (cpyOf es n b) (edAt es k).f.toNat (edAt es k).t.toNat (szN (cpyOf es n b) N es k) → e ∈ gadTo (cpyOf es n b) N es n := fun e h => by
        have := gadTo_sub (N := N) hl h (n - (k + 1))
        rw [show k + 1 + (n - (k + 1)) = n by omega] at this
        exact this
      unfold segOf at hp
      rw [if_neg (by rw [hl]; decide)] at hp
      cases hi : inTo o lo k with
      | false =>
        rw [hi, if_neg (by decide)] at hp
        obtain rfl := List.mem_singleton.1 hp
        exact ⟨_, sub ⟨_, _, 0, 0⟩ (List.mem_append_left _ (List.mem_append_left _ (List.mem_singleton.2 rfl))), rfl⟩
      | true =>
        obtain ⟨⟨f0, f1⟩, t0, t1⟩ := use_room RG.ends hI hu (k := k) (by omega) hi
        rw [hi, if_pos rfl] at hp
        rcases List.mem_cons.1 hp with rfl | hp
        · obtain ⟨c, hc⟩ : ∃ c : Nat, useTo es (inTo o lo) k (edAt es k).f.toNat = (c : Int) := ⟨(useTo es (inTo o lo) k (edAt es k).f.toNat).toNat, by omega⟩
          rw [hc]
          exact ⟨_, sub _ (List.mem_append_left _ (List.mem_append_right _ (upTo_has _ _ (j := c) (by omega)))), rfl⟩
        · obtain rfl := List.mem_singleton.1 hp
          obtain ⟨c, hc⟩ : ∃ c : Nat, useTo es (inTo o lo) k (edAt es k).t.toNat = (c : Int) := ⟨(useTo es (inTo o lo) k (edAt es k).t.toNat).toNat, by omega⟩
          rw [hc]
          exact ⟨_, sub _ (List.mem_append_right _ (dnTo_has _ _ (j := c) (by omega))), rfl⟩
  have pos : ∀ e ∈ gadTo (cpyOf es n b) N es n, 0 ≤ e.f ∧ 0 ≤ e.t := fun e h => by
    have := gadTo_mem hcp RG.ends n (Nat.le_refl _) e h
    omega
  have := most_ge _ _ (Nat.le_refl _) pos _ (ine n (Nat.le_refl _)) one
  omega

/-- A largest matching of the gadget tells bits. -/
theorem gad_bits {es : List Ed} {N n : Nat} (RG : Right N n es) {b : List Int} {mb : Nat} (hB : BndOk b mb N) (hn : n ≤ 3) : ∃ j, j < 2 ^ n ∧ TakOk es n N b (bl j n) (bl j n).length ∧ (mostN (gadTo (cpyOf es n b) N es n) : Int) ≤ nlTo es n + ((bl j n).length : Int) := by
  have hcp : CpOk (cpyOf es n b) N := fun v hv => cpyOf_bd RG.edges hB hv
  obtain ⟨P, p1, p2, p3⟩ := most_is _ (gadTo (cpyOf es n b) N es n) (Nat.le_refl _)
  obtain ⟨I, i1, i2, i3⟩ := gad_tells hcp RG.ends n (Nat.le_refl _) P p1 p2
  obtain ⟨j, hj, hbits⟩ := bits_of I hn (fun i h => (i1 i h).1)
  obtain ⟨r1, r2⟩ := bl_ok j n
  have hin : ∀ i, i < n → inTo (bl j n) (bl j n).length i = I i := fun i hi => by rw [r2, hbits i hi]; simp [hi]
  refine ⟨j, hj, ⟨r1, fun q hq => ?_, fun v hv => ?_⟩, ?_⟩
  · have rg := r1.rng hq
    have := hin (zAt (bl j n) q).toNat (by omega)
    have t : inTo (bl j n) (bl j n).length (zAt (bl j n) q).toNat = true := inTo_iff.2 ⟨q, hq, by omega⟩
    rw [t] at this
    have l := (i1 _ this.symm).2
    unfold lp at l
    rw [beq_eq_false_iff_ne] at l
    unfold frm tto
    exact l
  · have ut : useTo es I n v = takTo es (bl j n) (bl j n).length v := by
      rw [use_sum, tak_sum, ← sm_list (fun i => (if (edAt es i).f = (v : Int) then 1 else 0) + (if (edAt es i).t = (v : Int) then 1 else 0)) r1 _ (Nat.le_refl _)]
      exact sm_congr fun i hi => by rw [hin i hi]
    have a := i3 v hv
    have c : sm (fun c => cntP P ((sm (cpyOf es n b) v).toNat + c)) (cpyOf es n b v).toNat ≤ sm (fun _ => 1) (cpyOf es n b v).toNat := sm_le fun i _ => p2 _
    rw [sm_one] at c
    have d := (hcp v hv).1
    have e : cpyOf es n b v ≤ zAt b v := by unfold cpyOf; split <;> omega
    rw [← ut]
    omega
  · have cnt : sm (fun i => if I i then (1 : Int) else 0) n = ((bl j n).length : Int) := by
      have := sm_list (fun _ => 1) r1 _ (Nat.le_refl _)
      rw [sm_one] at this
      rw [← this]
      exact sm_congr fun i hi => by rw [hin i hi]
    rw [cnt] at i2
    omega
end Go.Proofs.YtpdppjngbbkbbaaDoor
namespace Go.Proofs.YtpdppjngbbkbbaaDoor
open Go.RowKit

theorem fits_and1 (n : Int) : bits .and .i64 n 1 = n % 2 := by
  have h1 : (BitVec.ofInt 64 1).toNat = 2 ^ 1 - 1 := by decide
  have key : (BitVec.ofInt 64 n &&& BitVec.ofInt 64 1).toNat = (n % ((2 ^ 64 : Nat) : Int)).toNat % 2 ^ 1 := by
    rw [BitVec.toNat_and, BitVec.toNat_ofInt, h1, Nat.and_two_pow_sub_one_eq_mod]
  show IntKind.i64.wrap ((BitVec.ofInt 64 n &&& BitVec.ofInt 64 1).toNat : Nat) = n % 2
  rw [key, IntKind.wrap_i64]
  omega
theorem bit_int (j i : Nat) : bits .and .i64 ((j : Int) / 2 ^ i) 1 = ((j / 2 ^ i % 2 : Nat) : Int) := by
  rw [fits_and1]
  have : ((2 : Int) ^ i) = ((2 ^ i : Nat) : Int) := by simp
  rw [this]
  omega
theorem pow3 {n : Nat} (h : n ≤ 3) : 2 ^ n ≤ 8 := by
  have h3 : n = 0 ∨ n = 1 ∨ n = 2 ∨ n = 3 := by omega
  rcases h3 with rfl | rfl | rfl | rfl <;> decide

/-- The best of the first j sets. -/
def BestIs (es : List Ed) (n N : Nat) (b : List Int) (j best : Nat) : Prop :=
  (∀ q, q < j → TakOk es n N b (bl q n) (bl q n).length → (bl q n).length ≤ best) ∧ (best = 0 ∨ ∃ q, TakOk es n N b (bl q n) (bl q n).length ∧ best = (bl q n).length)
theorem BestIs.start (es : List Ed) (n N : Nat) (b : List Int) : BestIs es n N b 0 0 := ⟨fun q h => by omega, .inl rfl⟩
theorem BestIs.yes {es : List Ed} {n N : Nat} {b : List Int} {j best : Nat} (h : BestIs es n N b j best) (t : TakOk es n N b (bl j n) (bl j n).length) : BestIs es n N b (j + 1) (max best (bl j n).length) := by
  obtain ⟨h1, h2⟩ := h
  refine ⟨fun q hq tq => ?_, ?_⟩
  · by_cases e : q = j
    · subst e; omega
    · have := h1 q (by omega) tq; omega
  · by_cases e : best ≤ (bl j n).length
    · exact .inr ⟨j, t, by omega⟩
    · rcases h2 with h2 | ⟨q, tq, hq⟩
      · omega
      · exact .inr ⟨q, tq, by omega⟩
theorem BestIs.no {es : List Ed} {n N : Nat} {b : List Int} {j best : Nat} (h : BestIs es n N b j best) (t : ¬ TakOk es n N b (bl j n) (bl j n).length) : BestIs es n N b (j + 1) best := by
  refine ⟨fun q hq tq => ?_, h.2⟩
  by_cases e : q = j
  · subst e; exact absurd tq t
  · exact h.1 q (by omega) tq
theorem BestIs.fits {es : List Ed} {n N : Nat} {b : List Int} {mb best : Nat} (RG : Right N n es) (hB : BndOk b mb N) (hn : n ≤ 3) (h : BestIs es n N b (2 ^ n) best) : (mostN (gadTo (cpyOf es n b) N es n) : Int) = nlTo es n + (best : Int) := by
  obtain ⟨j, hj, tj, le⟩ := gad_bits RG hB hn
  have a := h.1 j hj tj
  have ge := gad_ge RG hB tj
  rcases h.2 with e | ⟨q, tq, e⟩
  · omega
  · have g2 := gad_ge RG hB tq
    omega

set_option maxRecDepth 100000 in
set_option linter.unusedSimpArgs false in
set_option maxHeartbeats 4000000 in
theorem vouchGadgetFitsWalk (nodes : Int) (ao : Option Addr) (n cap : Nat) (es : List Ed) (bo : Option Addr) (mb bc : Nat) (b : List Int) (w : World) (h : ERow w ao n cap es) (hB : JRow w bo mb bc b) :
    Calls Tryd.prog 14 #[.agg #[.int .i64 nodes, .slice ao n cap], .slice bo mb bc] w fun e w' => e = .returned (.bool true) ∧ Below w.heap.size w w' := by
  have hnot : ∀ (x : Bool) (w : World), (Op.unary .not (.bool x)).run Tryd.prog w = .ok (.bool (!x)) w := fun _ _ => rfl
  obtain ⟨j0, ji, jz0, jz1, jz2⟩ := infoJ
  have hr1 := h.room
  have hm1 := h.most
  unfold maxLen at hm1
  have KW : Kept w (w.alloc (Obj.cells #[.int .i64 nodes, .slice ao n cap] 24)) := (Kept.refl w).alloc _
  have g0 : (w.alloc (Obj.cells #[.int .i64 nodes, .slice ao n cap] 24)).cell? ⟨w.heap.size, 0, none⟩ = some (.int .i64 nodes) := by simp [go_sem]
  have g1 : (w.alloc (Obj.cells #[.int .i64 nodes, .slice ao n cap] 24)).cell? ⟨w.heap.size, 1, none⟩ = some (.slice ao n cap) := by simp [go_sem]
  obtain ⟨N', l', z, hs⟩ : ∃ a1 b1 c1, gadSize nodes es n b mb = (a1, b1, c1) := ⟨_, _, _, rfl⟩
  obtain ⟨L0, hL0⟩ : ∃ L, gadEs nodes es n b mb = L := ⟨_, rfl⟩
  have HE := hid_of h
  have HB := hid_of hB
  have HS := hid_of hs
  have HL0 := hid_of hL0
  clear h hB hs hL0
  go_enter Tryd.func14, Tryd.ntmps14
  go_wp2_with fail
  generalize w.alloc (Obj.cells #[.int .i64 nodes, .slice ao n cap] 24) = W1 at KW g0 g1 ⊢
  have KWH := hid_of KW
  refine (awake_calls W1).mono ?_
  rintro v w2 ⟨rfl, K2⟩
  have K := hid_of (KWH.out.trans K2)
  replace g0 := K2.cell g0
  replace g1 := K2.cell g1
  clear K2 KW KWH
  go_wp2_with fail
  refine (gadget2_calls nodes ao n cap es bo mb bc b w2 (HE.out.kept K.out) (HB.out.kept K.out) N' l' z HS L0 HL0).mono ?_
  rintro v w3 ⟨⟨ho, hc, rfl, ER⟩, K2⟩
  have K3 := hid_of (K.out.trans K2)
  replace g0 := K2.cell g0
  replace g1 := K2.cell g1
  obtain ⟨hb, hhb⟩ : ∃ hb, w3.heap.size = hb := ⟨_, rfl⟩
  have KB : Kept w3 (w3.alloc (Obj.cells #[.int .i64 N', .slice ho l' hc] 24)) := (Kept.refl w3).alloc _
  have y0 : (w3.alloc (Obj.cells #[.int .i64 N', .slice ho l' hc] 24)).cell? ⟨hb, 0, none⟩ = some (.int .i64 N') := by simp [go_sem, ← hhb]
  have y1 : (w3.alloc (Obj.cells #[.int .i64 N', .slice ho l' hc] 24)).cell? ⟨hb, 1, none⟩ = some (.slice ho l' hc) := by simp [go_sem, ← hhb]
  have E1 := hid_of (ER.kept KB)
  replace g0 := KB.cell g0
  replace g1 := KB.cell g1
  have K4 := hid_of (K3.out.trans KB)
  clear K2 K ER
  go_upto_region 4 with fail
  generalize w3.alloc (Obj.cells #[.int .i64 N', .slice ho l' hc] 24) = W4 at g0 g1 y0 y1 E1 K4 ⊢
  clear KB K3 hhb
  have hs := HS.out
  have hL0 := HL0.out
  unfold gadSize at hs
  unfold gadEs at hL0
  by_cases hz : z = 0
  rotate_left
  · have ANS : Hid (N' = 0 ∧ l' = 0) := by
      split at hs
      · obtain ⟨a1, a2⟩ := Prod.mk.inj hs
        obtain ⟨a3, a4⟩ := Prod.mk.inj a2
        exact ⟨a1.symm, a3.symm⟩
      · split at hs
        · obtain ⟨a1, a2⟩ := Prod.mk.inj hs
          obtain ⟨a3, a4⟩ := Prod.mk.inj a2
          exact ⟨a1.symm, a3.symm⟩
        · split at hs
          · obtain ⟨a1, a2⟩ := Prod.mk.inj hs
            obtain ⟨a3, a4⟩ := Prod.mk.inj a2
            exact ⟨a1.symm, a3.symm⟩
          · obtain ⟨a1, a2⟩ := Prod.mk.inj hs
            obtain ⟨a3, a4⟩ := Prod.mk.inj a2
            exact absurd a4.symm hz
    have q1 : (z != 0) = true := by simpa using hz
    have q2 : (z == 0) = false := by simpa using hz
    obtain ⟨rfl, rfl⟩ := ANS.out
    clear hs hL0 HS HL0 hz ANS
    go_wp2
    go_ret
    exact ⟨rfl, K4.out⟩
  subst hz
  have hfb : (faultOf nodes es).1 = 0 ∧ BndOk b mb nodes.toNat ∧ Fits (cpyOf es n b) nodes.toNat es n := by
    split at hs
    · rename_i t
      obtain ⟨a1, a2⟩ := Prod.mk.inj hs
      obtain ⟨a3, a4⟩ := Prod.mk.inj a2
      exact absurd a4 t
    · rename_i t
      split at hs
      · simp at hs
      · rename_i t2
        split at hs
        · simp at hs
        · rename_i t3
          exact ⟨by simpa using t, Classical.not_not.1 t2, Classical.not_not.1 t3⟩
  obtain ⟨hf, hbnd, hfit⟩ := hfb
  rw [if_neg (by simp [hf]), if_neg (fun u => u hbnd), if_neg (fun u => u hfit)] at hL0
  obtain ⟨N, rfl, RG⟩ := right_of (fault_zero hf)
  rw [← HE.out.len] at RG
  rw [Int.toNat_natCast] at hbnd hL0
  have RGH := hid_of RG
  have HBND := hid_of hbnd
  have HL := hid_of hL0
  obtain rfl : mb = N := hbnd.1
  clear hs hL0 HS HL0 hfit hf hbnd RG
  have q1 : ((0 : Int) != 0) = false := by decide
  have q2 : ((0 : Int) == 0) = true := by decide
  by_cases hn : n ≤ 3
  rotate_left
  · have q3 : decide ((3 : Int) < (n : Int)) = true := decide_eq_true (by omega)
    have q4 : decide (3 < n) = true := decide_eq_true (by omega)
    have q5 : (3 : Int) < (n : Int) := by omega
    clear hn
    go_wp2
    go_ret
    exact ⟨rfl, K4.out⟩
  have q3 : decide ((3 : Int) < (n : Int)) = false := decide_eq_false (by omega)
  have q4 : decide (3 < n) = false := decide_eq_false (by omega)
  have q5 : ¬ (3 : Int) < (n : Int) := by omega
  by_cases hl : l' ≤ 14
  rotate_left
  · have q6 : decide ((14 : Int) < (l' : Int)) = true := decide_eq_true (by omega)
    have q7 : decide (14 < l') = true := decide_eq_true (by omega)
    have q8 : (14 : Int) < (l' : Int) := by omega
    clear hl
    go_wp2
    go_ret
    exact ⟨rfl, K4.out⟩
  have q6 : decide ((14 : Int) < (l' : Int)) = false := decide_eq_false (by omega)
  have q7 : decide (14 < l') = false := decide_eq_false (by omega)
  have q8 : ¬ (14 : Int) < (l' : Int) := by omega
  go_upto_region 6 with fail
  clear q1 q2 q3 q4 q5 q6 q7 q8
  obtain ⟨T, hT⟩ : ∃ T, 2 ^ n = T := ⟨_, rfl⟩
  have HT := hid_of hT
  have T8 : T ≤ 8 := by rw [← hT]; exact pow3 hn
  have SHL : IntKind.i64.wrap (2 ^ n) = (T : Int) := by
    have e : ((2 : Int) ^ n) = ((2 ^ n : Nat) : Int) := by simp
    rw [e, hT]
    exact wrap_id (by omega) (by omega)
  have G0 := hid_of g0
  have G1 := hid_of g1
  have Y0 := hid_of y0
  have Y1 := hid_of y1
  clear hT
  go_wp2_with fail
  go_loopw [7, 9] (fun bv iv wr => ∃ (j best : Nat), j ≤ T ∧ iv = .int .i64 j ∧ bv = .int .i64 best ∧ Kept W4 wr ∧ best ≤ n ∧ BestIs es n mb b j best) (fun _ iv _ => T - (intOf iv).toNat)
  case atStart => exact ⟨0, 0, by omega, rfl, rfl, Kept.refl _, by omega, BestIs.start _ _ _ _⟩
  case round =>
    obtain ⟨j, best, hj, rfl, rfl, K5, hbn, BI⟩ := hrel
    have BIH := hid_of BI
    have K5H := hid_of K5
    replace g0 := K5.cell G0.out
    replace g1 := K5.cell G1.out
    clear y0 y1
    by_cases hgo : (j : Int) < (T : Int)
    · have O1 : Hid (wr.ownsRow wr.heap.size 3 1 (.slice none 0 0) (bl j 0).length (jvals (bl j 0))) := World.ownsRow_nil _ _ _ _
      obtain ⟨W5, hW5⟩ : ∃ x, x = wr := ⟨_, rfl⟩
      subst hW5
      clear K5 BI
      go_wp2_with fail
      go_loopw [10, 60] (fun lv kv w2 => ∃ (k : Nat), k ≤ n ∧ kv = .int .i64 k ∧ w2.ownsRow W5.heap.size 3 1 lv (bl j k).length (jvals (bl j k)) ∧ Kept W5 w2) (fun _ kv _ => n - (intOf kv).toNat)
      case atStart => exact ⟨0, by omega, rfl, O1.out, Kept.refl _⟩
      case round =>
        obtain ⟨k, hk, rfl, OR, K6⟩ := hrel
        have K6H := hid_of K6
        obtain ⟨len, hlen⟩ : ∃ len, (bl j k).length = len := ⟨_, rfl⟩
        have hlk := bl_len j k
        rw [hlen] at OR hlk
        have HLEN := hid_of hlen
        obtain ⟨so, sc, rfl⟩ := owns_slice1j OR
        have ORH := hid_of OR
        replace g0 := K6.cell g0
        replace g1 := K6.cell g1
        clear hlen OR K6 O1
        by_cases hgo2 : (k : Int) < (n : Int)
        · have SU := hid_of (bl_succ j k)
          have BT := bit_int j k
          cases hb : decide (j / 2 ^ k % 2 = 1) with
          | true =>
            have A1 : bits .and .i64 ((j : Int) / 2 ^ k) 1 = 1 := by rw [BT, of_decide_eq_true hb]; rfl
            have SU2 : Hid (bl j (k + 1) = bl j k ++ [(k : Int)]) := by show _ = _; rw [SU.out, hb]; rfl
            have NW := hid_of (cell_newj wr 3 (.int .i64 (k : Int)))
            have HM := hid_of (World.ownsRow.alloc ORH.out (Obj.cells #[.int .i64 (k : Int)] 3))
            have hbw : W5.heap.size ≤ wr.heap.size := K6H.out.size
            clear BT hb SU
            go_wp2_with (at_builtin; refine wpList_append_own_at _ rfl _ _ 25 rfl W5.heap.size 3 j0 (.int .i64 0) 1 8 Tryd.underlying25 ji jz0 jz1 jz2 rfl (by decide) _ _ _ rfl HM.out ⟨wr.heap.size, 0, none⟩ 1 1 [.int .i64 (k : Int)] rfl rfl NW.out (by intro u hu; simp at hu; subst hu; rfl) (by unfold maxLen; omega) (by omega) (by simp; omega) ?_)
            intro u' w8 own grow _ _
            have OF : Hid (w8.ownsRow W5.heap.size 3 1 u' (bl j (k + 1)).length (jvals (bl j (k + 1)))) := by
              rw [SU2.out]
              show w8.ownsRow W5.heap.size 3 1 u' (bl j k ++ [(k : Int)]).length (jvals (bl j k ++ [(k : Int)]))
              rw [← jvals_snoc, List.length_append, HLEN.out]
              exact own
            have KA : Kept W5 (wr.alloc (Obj.cells #[.int .i64 (k : Int)] 3)) := K6H.out.alloc _
            have KF : Hid (Kept W5 w8) := Below.grown KA grow KA.size (fun kk e => (ORH.out.lt kk e).1)
            clear own grow HM NW ORH KA K6H g0 g1 A1
            go_wp2_with fail
            go_roundw
            case rel => exact ⟨k + 1, by omega, by go_num, OF.out, KF.out⟩
            case measure => simp [intOf]; omega
          | false =>
            have A1 : bits .and .i64 ((j : Int) / 2 ^ k) 1 = 0 := by
              have := of_decide_eq_false hb
              rw [BT]
              omega
            have OF : Hid (wr.ownsRow W5.heap.size 3 1 (.slice so len sc) (bl j (k + 1)).length (jvals (bl j (k + 1)))) := by
              rw [SU.out, hb]
              show wr.ownsRow W5.heap.size 3 1 (.slice so len sc) (bl j k ++ []).length (jvals (bl j k ++ []))
              rw [List.append_nil, HLEN.out]
              exact ORH.out
            clear BT hb SU ORH
            go_wp2_with fail
            go_roundw
            case rel => exact ⟨k + 1, by omega, by go_num, OF.out, K6H.out⟩
            case measure => simp [intOf]; omega
        · obtain rfl : k = n := by omega
          have JF := hid_of (JRow.of_owns ORH.out)
          have K7 := hid_of (K5H.out.trans K6H.out)
          have TC := hid_of (takenR_calls mb ao k cap es so len sc (bl j k) bo bc b wr (HE.out.kept (K4.out.trans K7.out)) JF.out (HB.out.kept (K4.out.trans K7.out)) RGH.out)
          have LEQ := hid_of (HLEN.out)
          clear ORH JF K6H
          go_wp2_with fail
          refine TC.out.mono ?_
          rintro v w9 ⟨K8, ⟨ok, rfl⟩ | ⟨ok, rfl⟩⟩
          · have BF : Hid (BestIs es k mb b (j + 1) (max best len)) := by
              have := BIH.out.yes (by rw [HLEN.out]; exact ok)
              rw [HLEN.out] at this
              exact this
            have KF := hid_of (K7.out.trans K8)
            clear K8 TC ok g0 g1
            have M : (if best < len then (len : Int) else (best : Int)) = ((max best len : Nat) : Int) := by split <;> omega
            have MB : max best len ≤ k := by omega
            go_wp2_with fail
            go_roundw
            case rel => exact ⟨j + 1, max best len, by omega, by go_num, by first | rfl | rw [M], KF.out, MB, BF.out⟩
            case measure => simp [intOf]; omega
          · have BF : Hid (BestIs es k mb b (j + 1) best) := BIH.out.no (by rw [HLEN.out]; exact ok)
            have KF := hid_of (K7.out.trans K8)
            clear K8 TC ok g0 g1
            go_wp2_with fail
            go_roundw
            case rel => exact ⟨j + 1, best, by omega, by go_num, rfl, KF.out, hbn, BF.out⟩
            case measure => simp [intOf]; omega
    · obtain rfl : j = T := by omega
      have FIT : Hid ((mostN L0 : Int) = nlTo es n + (best : Int)) := by
        have := BIH.out
        rw [← HT.out] at this
        show _ = _
        rw [← HL.out]
        exact this.fits RGH.out HBND.out hn
      obtain ⟨W6, hW6⟩ : ∃ x, x = wr := ⟨_, rfl⟩
      subst hW6
      clear K5 BI BIH
      go_wp2_with fail
      go_loopw [8, 84] (fun cv kv w2 => ∃ (k : Nat), k ≤ n ∧ kv = .int .i64 k ∧ cv = .int .i64 (nlTo es k) ∧ Kept W6 w2) (fun _ kv _ => n - (intOf kv).toNat)
      case atStart => exact ⟨0, by omega, rfl, rfl, Kept.refl _⟩
      case round =>
        obtain ⟨k, hk, rfl, rfl, K6⟩ := hrel
        have K6H := hid_of K6
        obtain ⟨nl1, nl2⟩ := nlTo_bd es k
        by_cases hgo2 : (k : Int) < (n : Int)
        · obtain ⟨b5, off5, rfl, hcl⟩ := (HE.out.kept (K4.out.trans (K5H.out.trans K6))).cell (by omega)
          obtain ⟨d1, d2, d3, d4⟩ := hcl k (by omega)
          have NS := hid_of (nlTo_succ es k)
          unfold lp at NS
          generalize nlTo es k = cnt at NS nl1 nl2 ⊢
          generalize edAt es k = x at d1 d2 d3 d4 NS
          obtain ⟨ef, et, ec, ek⟩ := x
          simp only at d1 d2 d3 d4 NS
          have WC : IntKind.i64.wrap (cnt + 1) = cnt + 1 := wrap_id (by omega) (by omega)
          clear hcl K6 g0 g1
          by_cases e : ef = et
          · have p1 : (ef != et) = false := by simp [e]
            have p2 : (ef == et) = true := by simp [e]
            have NF : Hid (nlTo es (k + 1) = cnt) := by show _ = _; rw [NS.out, if_pos p2]; omega
            clear e p2 NS
            go_wp2_with fail
            go_roundw
            case rel => exact ⟨k + 1, by omega, by go_num, by rw [NF.out], K6H.out.alloc _⟩
            case measure => simp [intOf]; omega
          · have p1 : (ef != et) = true := by simpa using e
            have p2 : ¬ (ef == et) = true := by simpa using e
            have NF : Hid (nlTo es (k + 1) = cnt + 1) := by show _ = _; rw [NS.out, if_neg p2]
            clear e p2 NS
            go_wp2_with fail
            go_roundw
            case rel => exact ⟨k + 1, by omega, by go_num, by rw [NF.out], K6H.out.alloc _⟩
            case measure => simp [intOf]; omega
        · obtain rfl : k = n := by omega
          have y0 := (K5H.out.trans K6).cell Y0.out
          have y1 := (K5H.out.trans K6).cell Y1.out
          have MC := hid_of (mostR_calls (l' + 1) N' ho l' hc L0 wr (E1.out.kept (K5H.out.trans K6)) (by omega) (by omega))
          have WC : IntKind.i64.wrap (nlTo es k + (best : Int)) = nlTo es k + (best : Int) := wrap_id (by omega) (by omega)
          have K7 := hid_of (K4.out.trans (K5H.out.trans K6))
          clear K6 g0 g1
          go_wp2_with fail
          refine MC.out.mono ?_
          rintro v w8 ⟨so, l, sc, ws, rfl, hlm, JR, -, K8⟩
          have q : ((l : Int) == nlTo es k + (best : Int)) = true := by
            have := FIT.out
            rw [beq_iff_eq, hlm]
            exact this
          have KF := hid_of (K7.out.trans K8)
          clear JR hlm K8 y0 y1 MC
          go_wp2
          go_ret
          exact ⟨rfl, KF.out⟩
end Go.Proofs.YtpdppjngbbkbbaaDoor
namespace Go.Proofs.YtpdppjngbbkbbaaDoor.vouchGadgetFits
open Go.ChangeShapes Go.WideShapes Go.ChangeAt Go.RowKit Go.Joins Go.Deep
set_option linter.unusedVariables false

theorem own : ownKnob Tryd.prog.godebug = none := by kernel_rfl
theorem laidOut : laidOutB Tryd.prog = true := by kernel_rfl

set_option maxRecDepth 100000 in
theorem lifted (os : Os) (started : os.Started) (H : Type) (enc : TypeId × Value → H) :
    ReturnsInHanded {} Tryd.checked os 14 .any (fun w args => (Rows.vouchGadgetFitsSpec.pre enc Tryd.prog Tryd.f14 [] false w args ∧ laidMetH Tryd.prog [("math/bits.deBruijn64tab", Rows.laid_math_bits_deBruijn64tab)] w) ∧ sizedMet enc Tryd.prog Tryd.f14 (OpenSpec.ofChange Rows.vouchGadgetFitsSpec) false w args)
      (Rows.vouchGadgetFitsSpec.post enc Tryd.prog Tryd.f14 false true false false) := by
  refine returnsInHanded_of_change_and (C := Tryd.checked) (X := fun w _ => laidMetH Tryd.prog [("math/bits.deBruijn64tab", Rows.laid_math_bits_deBruijn64tab)] w) (fun _ _ _ hh h => h.of_heap hh) own started (by kernel_rfl) Tryd.func14
    (ChangeSpec.witness_shaped (enc := enc) (C := Tryd.checked) (os := os) (X := fun w _ => laidMetH Tryd.prog [("math/bits.deBruijn64tab", Rows.laid_math_bits_deBruijn64tab)] w) false (World.doorLaid Tryd.prog 400 os) #[.agg #[.int .i64 0, .slice none 0 0], .slice none 0 0] 8 rfl (World.shaped_of_RefB (by kernel_rfl) (by kernel_rfl)) (by kernel_rfl) (by kernel_rfl) (by kernel_rfl) (door_met os _)) ?_
  intro W base args ds gs before hval0 hW _ hsz0 hL _
  have hval : ∀ (j : Nat) t v, Tryd.f14.params[j]? = some t → args[j]? = some v → Value.okWide Tryd.prog W .any base t v := hval0
  have hW' := hW
  obtain ⟨p, q, hA0, hV, rfl, hfz, hnd⟩ := hW
  have hA : DataW.TrodAll enc Tryd.prog W 0 (fun _ => true) true Tryd.f14.params.toList args.toList ds p := hA0
  rw [Tryd.params14] at hA hval
  obtain ⟨v0, vs0, d0, ds0, p0, q0, hargs, rfl, rfl, h0, r0⟩ := trodAll_cons hA
  obtain ⟨v1, vs1, d1, ds1, p1, q1, rfl, rfl, rfl, h1, r1⟩ := trodAll_cons r0
  obtain ⟨rfl, rfl, rfl⟩ := trodAll_nil r1
  obtain rfl : args = #[v0, v1] := by cases args; simp_all
  obtain ⟨rfl, rfl⟩ := trodVars_none hV
  have k0 := h0
  have lt0 : ∀ x ∈ p0, x.block < W.heap.size := by obtain ⟨m, hm⟩ := k0; exact DataW.trod_lt m _ _ _ hm
  obtain ⟨c00, c01, y00, y01, m0, rfl, rfl, rfl, hy00, hy01⟩ := open_agg2 Tryd.underlying24 (by kernel_rfl) cellsG (hval 0 24 v0 rfl rfl) h0
  obtain ⟨a00, e00, rfl, w00⟩ := DataW.trod_int Tryd.underlying3 hy00
  simp at e00
  subst e00
  obtain ⟨ao0, len0, cap0, e01⟩ := slice_form Tryd.underlying22 hy01
  simp at e01
  subst e01
  obtain ⟨⟨es0, hE0, _⟩, hnil0, hbulk0⟩ := open_edges hy01
  obtain ⟨ao1, len1, cap1, rfl⟩ := okWide_slice Tryd.underlying25 (hval 1 25 v1 rfl rfl)
  have k1 := h1
  have lt1 : ∀ x ∈ p1, x.block < W.heap.size := by obtain ⟨m, hm⟩ := k1; exact DataW.trod_lt m _ _ _ hm
  obtain ⟨xs1, hR1⟩ : ∃ xs, JRow W ao1 len1 cap1 xs := by
    obtain ⟨fuel, hf⟩ := h1
    exact open_ints hf
  clear hA0 hval0
  refine (vouchGadgetFitsWalk a00 ao0 len0 cap0 es0 ao1 len1 cap1 xs1 W hE0 hR1).mono fun e W' ⟨he, bel⟩ => ?_
  subst he
  exact ⟨_, rfl, _, _, _, [], _, [], hW', (trodAll_cons_mk (shut_bool Tryd.underlying4 _) trodAll_mk0), (trodAll_cons_mk (Below.trod laidOut (by kernel_rfl) (of_decide_eq_true (by kernel_rfl)) k0 bel lt0) (trodAll_cons_mk (Below.trod laidOut (by kernel_rfl) (of_decide_eq_true (by kernel_rfl)) k1 bel lt1) trodAll_mk0)), rfl, bel.frame _, fun h => by cases h⟩

theorem over : Rows.VouchGadgetFitsSaid :=
  OpenClaim.holds_of_wide 14 Tryd.f14 rfl rfl rfl rfl rfl rfl rfl ⟨rfl, rfl, rfl, rfl, rfl⟩ rfl rfl rfl rfl rfl (by kernel_rfl) Tryd.func14 (by kernel_rfl)
    (of_decide_eq_true (by kernel_rfl)) (by unfold Func.isWrapper; first | (rw [if_pos (by decide +kernel)]; kernel_rfl) | (rw [if_neg (by decide +kernel)]; exact ⟨rfl, rfl⟩))
    (fun os started H enc _ => lifted os started H enc)
end Go.Proofs.YtpdppjngbbkbbaaDoor.vouchGadgetFits

namespace Go.Proofs.YtpdppjngbbkbbaaDoor

/-- The statement: the tied card. -/
theorem vouchGadgetFitsHolds : Rows.VouchGadgetFitsCardSaid :=
  Claim7.holds_tied_plain_at .later [] [.data] true (true, "1ee77a617945d33e3d75f6f835dbd8aff6fac7be2c3d7c0de74290fe8fe1eaec") true
    vouchGadgetFits.over (fun _ h => by cases h) (by kernel_rfl) (fun _ h => by cases h) vouchGadgetFits_row_tie rfl ⟨rfl, rfl⟩ (by kernel_rfl) rfl
    (fun f fn hf hfn => by
      obtain rfl : f = 14 := Option.some.inj ((show Tryd.prog.funcNamed "compass/compasslaw12.VouchGadgetFits" = some 14 by kernel_rfl).symm.trans hf) |>.symm
      obtain rfl : fn = Tryd.f14 := (Option.some.inj (Tryd.func14.symm.trans hfn)).symm
      exact ⟨by kernel_rfl, fun j t ht => by
        rw [Tryd.params14] at ht
        have hm : t ∈ [24, 25] := by simpa using Array.mem_of_getElem? ht
        have hall : ([24, 25].all fun u => !Tryd.prog.wantsStandIn u) = true := by kernel_rfl
        exact (show Tryd.prog.wantsStandIn t = false by simpa using List.all_eq_true.1 hall t hm)⟩)
    (by kernel_rfl)

end Go.Proofs.YtpdppjngbbkbbaaDoor

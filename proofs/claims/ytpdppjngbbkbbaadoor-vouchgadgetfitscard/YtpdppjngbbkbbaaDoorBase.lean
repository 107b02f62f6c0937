/- What holds of memory: old blocks are kept; rows of digits. -/
import Derived.Test.YtpdppjngbbkbbaaDoorRows
import Derived.Test.YtpdppjngbbkbbaaDoorDigits
import Derived.WalkKit
import Derived.WalkSpells
import Derived.WalkLawsBesides
import Derived.BigQuiet
import Derived.Handy
import Derived.Laws.BitsAllLaws
import Derived.Deep.QuietTactic
import Derived.Deep.RegionWith
namespace Go.Proofs.YtpdppjngbbkbbaaDoor
open Go.RowKit

theorem ret_int {k : IntKind} {a b : Int} (h : a = b) : Ending.returned (.int k a) = .returned (.int k b) := by rw [h]

theorem hid_of {p : Prop} (h : p) : Hid p := h

/-- No block that was there has turned. -/
def Kept (w w' : World) : Prop := Below w.heap.size w w'
theorem Kept.out {w w' : World} (h : Kept w w') : Below w.heap.size w w' := h
theorem Kept.refl (w : World) : Kept w w := Below.refl _ _
theorem Kept.trans {a b c : World} (h : Kept a b) (k : Kept b c) : Kept a c := Below.trans h (Below.mono k h.size)
theorem Kept.drew {a w : World} (h : Kept a w) : Kept a w.drew := Below.drew h
theorem Kept.drewN {a w : World} (h : Kept a w) (n : Nat) : Kept a (w.drewN n) := h.trans ⟨rfl, rfl, rfl, Nat.le_refl _, fun _ _ => rfl⟩
theorem Kept.alloc {a w : World} (h : Kept a w) (o : Obj) : Kept a (w.alloc o) := Below.alloc h h.size o
theorem Kept.setCell {a w : World} (h : Kept a w) {p : Addr} (hp : a.heap.size ≤ p.block) (u : Value) : Kept a (w.setCell p u) := Below.setCell h hp u
theorem Kept.cell {a w : World} (h : Kept a w) {p : Addr} {v : Value} (hc : a.cell? p = some v) : w.cell? p = some v := by
  have hb : p.block < a.heap.size := by
    simp only [World.cell?] at hc
    by_cases hlt : p.block < a.heap.size
    · exact hlt
    · rw [Array.getElem?_eq_none (by omega)] at hc
      simp at hc
  exact (Below.cell h hb).trans hc

/-- A row of digits: the slice's address, its length, its room. -/
structure Row (w : World) (ao : Option Addr) (n cap : Nat) (ds : List Nat) : Prop where
  len : n = ds.length
  room : n ≤ cap
  most : cap ≤ maxLen
  cell : 0 < n → ∃ b off, ao = some ⟨b, off, none⟩ ∧ ∀ i, i < n → w.cell? ⟨b, off + i, none⟩ = some (.int .u64 ((ds.getD i 0 : Nat) : Int))

theorem Row.kept {w w' : World} {ao : Option Addr} {n cap : Nat} {ds : List Nat} (h : Row w ao n cap ds) (k : Kept w w') : Row w' ao n cap ds :=
  ⟨h.len, h.room, h.most, fun hn => by
    obtain ⟨b, off, e, hc⟩ := h.cell hn
    exact ⟨b, off, e, fun i hi => k.cell (hc i hi)⟩⟩

theorem Row.take {w : World} {ao : Option Addr} {n cap : Nat} {ds : List Nat} (h : Row w ao n cap ds) (k : Nat) (hk : k ≤ n) : Row w ao k cap (ds.take k) := by
  have hl := h.len
  refine ⟨by simp; omega, by have := h.room; omega, h.most, fun hn => ?_⟩
  obtain ⟨b, off, e, hc⟩ := h.cell (by omega)
  refine ⟨b, off, e, fun i hi => ?_⟩
  rw [hc i (by omega)]
  simp [List.getD, hi]

/-- The digits of a list as values. -/
def vals (ds : List Nat) : List Value := ds.map fun (d : Nat) => Value.int .u64 (d : Int)
theorem vals_len (ds : List Nat) : (vals ds).length = ds.length := by simp [vals]
theorem vals_snoc (ds : List Nat) (d : Nat) : vals ds ++ [.int .u64 (d : Int)] = vals (ds ++ [d]) := by simp [vals]
theorem vals_get (ds : List Nat) (i : Nat) (h : i < ds.length) : (vals ds)[i]? = some (.int .u64 ((ds.getD i 0 : Nat) : Int)) := by simp [vals, List.getD, h]
theorem vals_set (ds : List Nat) (i x : Nat) : (vals ds).set i (.int .u64 (x : Int)) = vals (ds.set i x) := by simp [vals, List.map_set]

/-- What the call owns is a row of digits. -/
theorem Row.of_owns {w : World} {base e : Nat} {ao : Option Addr} {n cap : Nat} {ds : List Nat} (h : w.ownsRow base e 1 (.slice ao n cap) ds.length (vals ds)) (hn : n = ds.length) : Row w ao n cap ds := by
  subst hn
  rcases h.2 with ⟨h1, h2⟩ | ⟨g, cap', cur, h1, _, _, hnc, hm, _⟩
  · simp only [Value.slice.injEq] at h1
    obtain ⟨_, h3, rfl⟩ := h1
    exact ⟨rfl, by omega, by unfold maxLen; omega, fun hp => by omega⟩
  · simp only [Value.slice.injEq, true_and] at h1
    obtain ⟨rfl, rfl⟩ := h1
    refine ⟨rfl, hnc, hm, fun _ => ⟨g, 0, rfl, fun i hi => ?_⟩⟩
    rw [Nat.zero_add, h.cellAt i (by omega), vals_get ds i hi]

/-- A number of any length in memory. -/
structure BigAt (w : World) (v : Value) (z : Int) : Prop where
  ex : ∃ (m : Bool) (ao : Option Addr) (n cap : Nat) (ds : List Nat), v = .agg #[.bool m, .slice ao n cap] ∧ Row w ao n cap ds ∧ Dg.Canon ds ∧ (m = true → ds ≠ []) ∧ z = if m then -(Dg.val ds : Int) else (Dg.val ds : Int)

theorem BigAt.kept {w w' : World} {v : Value} {z : Int} (h : BigAt w v z) (k : Kept w w') : BigAt w' v z := by
  obtain ⟨m, ao, n, cap, ds, h1, h2, h3, h4, h5⟩ := h.ex
  exact ⟨m, ao, n, cap, ds, h1, h2.kept k, h3, h4, h5⟩

theorem BigAt.of_eq {w : World} {v : Value} {x y : Int} (h : BigAt w v x) (e : x = y) : BigAt w v y := e ▸ h

theorem BigAt.mk' {w : World} {m : Bool} {ao : Option Addr} {n cap : Nat} {ds : List Nat} {z : Int} (h2 : Row w ao n cap ds) (h3 : Dg.Canon ds) (h4 : m = true → ds ≠ []) (h5 : z = if m then -(Dg.val ds : Int) else (Dg.val ds : Int)) :
    BigAt w (.agg #[.bool m, .slice ao n cap]) z := ⟨m, ao, n, cap, ds, rfl, h2, h3, h4, h5⟩

/-- The box of a struct of two, made by the call: what it holds behind whatever was called since. -/
theorem box2 {w w' : World} {c0 c1 : Value} {T : TypeId} (h : Kept (w.alloc (.cells #[c0, c1] T)) w') :
    w'.cell? ⟨w.heap.size, 0, none⟩ = some c0 ∧ w'.cell? ⟨w.heap.size, 1, none⟩ = some c1 ∧ w'.frozen? ⟨w.heap.size, 0, none⟩ = false ∧ w'.frozen? ⟨w.heap.size, 1, none⟩ = false ∧ w.heap.size < w'.heap.size := by
  have h1 : w.heap.size < (w.alloc (.cells #[c0, c1] T)).heap.size := by simp
  refine ⟨h.cell (by simp [go_sem]), h.cell (by simp [go_sem]), ?_, ?_, Nat.lt_of_lt_of_le h1 h.size⟩
  · rw [Below.frozen h (by exact h1)]; simp [go_sem]
  · rw [Below.frozen h (by exact h1)]; simp [go_sem]

/-- The same box written. -/
theorem box2w {w : World} {b : Nat} {c0 c1 : Value} (h0 : w.cell? ⟨b, 0, none⟩ = some c0) (h1 : w.cell? ⟨b, 1, none⟩ = some c1) (u0 u1 : Value) :
    (w.setCell ⟨b, 0, none⟩ u0).cell? ⟨b, 0, none⟩ = some u0 ∧ (w.setCell ⟨b, 0, none⟩ u0).cell? ⟨b, 1, none⟩ = some c1 ∧
    ((w.setCell ⟨b, 0, none⟩ u0).setCell ⟨b, 1, none⟩ u1).cell? ⟨b, 0, none⟩ = some u0 ∧ ((w.setCell ⟨b, 0, none⟩ u0).setCell ⟨b, 1, none⟩ u1).cell? ⟨b, 1, none⟩ = some u1 := by
  have e1 : (w.setCell ⟨b, 0, none⟩ u0).cell? ⟨b, 0, none⟩ = some u0 := World.cell?_setCell_same _ _ _ h0
  have e2 : (w.setCell ⟨b, 0, none⟩ u0).cell? ⟨b, 1, none⟩ = some c1 := by rw [World.cell?_setCell_other _ _ _ _ (by simp)]; exact h1
  refine ⟨e1, e2, ?_, World.cell?_setCell_same _ _ _ e2⟩
  rw [World.cell?_setCell_other _ _ _ _ (by simp)]; exact e1

theorem Row.setCell {w : World} {ao : Option Addr} {n cap : Nat} {ds : List Nat} (h : Row w ao n cap ds) {p : Addr} (hp : ∀ d, w.cell? p ≠ some (.int .u64 d)) (u : Value) : Row (w.setCell p u) ao n cap ds :=
  ⟨h.len, h.room, h.most, fun hn => by
    obtain ⟨b, off, e, hc⟩ := h.cell hn
    refine ⟨b, off, e, fun i hi => ?_⟩
    have h1 := hc i hi
    rw [World.cell?_setCell_other _ _ _ _ (fun e => hp ((ds.getD i 0 : Nat) : Int) (by rw [e]; exact h1))]
    exact h1⟩

/-- A number stays where it is while the box of another struct is written. -/
theorem BigAt.box2w {w : World} {v : Value} {z : Int} {b : Nat} {m : Bool} {a1 : Option Addr} {n1 k1 : Nat} (h : BigAt w v z) (h0 : w.cell? ⟨b, 0, none⟩ = some (.bool m)) (h1 : w.cell? ⟨b, 1, none⟩ = some (.slice a1 n1 k1)) (u0 u1 : Value) :
    BigAt ((w.setCell ⟨b, 0, none⟩ u0).setCell ⟨b, 1, none⟩ u1) v z := by
  obtain ⟨m', ao, n, cap, ds, e1, e2, e3, e4, e5⟩ := h.ex
  have r := (e2.setCell (p := ⟨b, 0, none⟩) (fun d e => by rw [h0] at e; simp at e) u0).setCell (p := ⟨b, 1, none⟩) (fun d e => by
    rw [World.cell?_setCell_other _ _ _ _ (by simp), h1] at e; simp at e) u1
  exact ⟨m', ao, n, cap, ds, e1, r, e3, e4, e5⟩

/-- Old cells and marks read as they did, as rules for the walk. -/
theorem kcell {w w' : World} (h : Kept w w') : (∀ b o, b < w.heap.size → w'.cell? ⟨b, o, none⟩ = w.cell? ⟨b, o, none⟩) ∧ (∀ b o, b < w.heap.size → w'.frozen? ⟨b, o, none⟩ = w.frozen? ⟨b, o, none⟩) ∧ w.heap.size ≤ w'.heap.size :=
  ⟨fun b o hb => Below.cell (p := ⟨b, o, none⟩) h hb, fun b o hb => Below.frozen (p := ⟨b, o, none⟩) h hb, h.size⟩
end Go.Proofs.YtpdppjngbbkbbaaDoor

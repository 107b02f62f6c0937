/- Right graphs, boxes, rows of the call's own: what the vouchers need of them. -/
import Derived.Test.YtpdppjngbbkbbaaDoorCnC
import Derived.Test.YtpdppjngbbkbbaaDoorPrN
import Derived.Test.YtpdppjngbbkbbaaDoorPrA
import Derived.Defers
import Derived.Recover
import Derived.Laws.Pointers
import Derived.Deep.RegionHeld3
import Derived.Deep.OwnRows
import Derived.Deep.DeepCutAuto
import Derived.Deep.CutBlock
namespace Go.Proofs.YtpdppjngbbkbbaaDoor
open Go.RowKit

/-- A right graph. -/
structure Right (N n : Nat) (es : List Ed) : Prop where
  nodes : N ≤ 1024
  edges : n ≤ 4096
  len : n = es.length
  ends : EndsIn es N n
  caps : ∀ i, i < n → 0 ≤ (edAt es i).c ∧ (edAt es i).c ≤ 1048576
  costs : ∀ i, i < n → -1048576 ≤ (edAt es i).k ∧ (edAt es i).k ≤ 1048576

theorem right_of {nodes : Int} {es : List Ed} (h : faultOf nodes es = (0, 0)) : ∃ N : Nat, nodes = (N : Int) ∧ Right N es.length es := by
  unfold faultOf at h
  by_cases hs : nodes < 0 ∨ 1024 < nodes ∨ 4096 < es.length
  · rw [if_pos hs] at h; simp at h
  · rw [if_neg hs] at h
    have hb : ∀ k, k ≤ es.length → ∀ i, i < k → badOf nodes (edAt es i) = 0 := by
      intro k hk i hi
      have h0 : (faultTo nodes es i).1 = 0 := by
        by_cases h1 : (faultTo nodes es i).1 = 0
        · exact h1
        · have := fault_stop nodes es i h1 (es.length - i)
          rw [show i + (es.length - i) = es.length by omega, h] at this
          rw [← this] at h1
          exact absurd rfl h1
      by_cases h1 : badOf nodes (edAt es i) = 0
      · exact h1
      · have := fault_hit nodes es i (fault_clean nodes es i h0) h1 (by omega)
        rw [h] at this
        simp only [Prod.mk.injEq] at this
        exact absurd this.1.symm h1
    refine ⟨nodes.toNat, by omega, ⟨by omega, by omega, rfl, fun i hi => ?_, fun i hi => ?_, fun i hi => ?_⟩⟩
    all_goals
      have := hb es.length (Nat.le_refl _) i hi
      unfold badOf at this
      split at this
      · omega
      · split at this <;> omega

/-- A number of a list. -/
def zAt (zs : List Int) (i : Nat) : Int := zs.getD i 0

theorem JRow.at {w : World} {ao : Option Addr} {n cap : Nat} {zs : List Int} (h : JRow w ao n cap zs) (hn : 0 < n) : ∃ b off, ao = some ⟨b, off, none⟩ ∧ ∀ i, i < n → w.cell? ⟨b, off + i, none⟩ = some (.int .i64 (zAt zs i)) := h.cell hn

theorem fault_zero {nodes : Int} {es : List Ed} (h : (faultOf nodes es).1 = 0) : faultOf nodes es = (0, 0) := by
  by_cases h2 : nodes < 0 ∨ 1024 < nodes ∨ 4096 < es.length
  · unfold faultOf at h; rw [if_pos h2] at h; simp at h
  · unfold faultOf at h ⊢; rw [if_neg h2] at h ⊢; exact fault_clean nodes es _ h

theorem mul_bd {x y X Y : Int} (hX : 0 ≤ X) (h1 : -X ≤ x) (h2 : x ≤ X) (h3 : 0 ≤ y) (h4 : y ≤ Y) : -(X * Y) ≤ x * y ∧ x * y ≤ X * Y := by
  have a : x * y ≤ X * y := Int.mul_le_mul_of_nonneg_right h2 h3
  have b : X * y ≤ X * Y := Int.mul_le_mul_of_nonneg_left h4 hX
  have c : -X * y ≤ x * y := Int.mul_le_mul_of_nonneg_right h1 h3
  have d : -X * y = -(X * y) := Int.neg_mul _ _
  omega

/-- A graph's box. -/
structure GBox (w : World) (gb : Nat) (nodes : Int) (ao : Option Addr) (n cap : Nat) : Prop where
  g0 : w.cell? ⟨gb, 0, none⟩ = some (.int .i64 nodes)
  g1 : w.cell? ⟨gb, 1, none⟩ = some (.slice ao n cap)

theorem GBox.kept {w w' : World} {gb : Nat} {nodes : Int} {ao : Option Addr} {n cap : Nat} (h : GBox w gb nodes ao n cap) (K : Kept w w') : GBox w' gb nodes ao n cap := ⟨K.cell h.g0, K.cell h.g1⟩

/-- A box of two. -/
structure Box2 (w : World) (fb : Nat) (a b : Value) : Prop where
  f0 : w.cell? ⟨fb, 0, none⟩ = some a
  f1 : w.cell? ⟨fb, 1, none⟩ = some b

theorem Box2.kept {w w' : World} {fb : Nat} {a b : Value} (h : Box2 w fb a b) (K : Kept w w') : Box2 w' fb a b := ⟨K.cell h.f0, K.cell h.f1⟩

theorem pigeon : ∀ (n L : Nat) (f : Nat → Nat), (∀ j, j < L → f j < n) → (∀ k, k < L → ∀ j, j < k → f j ≠ f k) → L ≤ n
  | 0, L, f, hr, _ => by
    by_cases h : L = 0
    · omega
    · have := hr 0 (by omega); omega
  | n + 1, L, f, hr, hi => by
    by_cases h : ∃ j0, j0 < L ∧ f j0 = n
    · obtain ⟨j0, h0, e0⟩ := h
      have := pigeon n (L - 1) (fun j => if j < j0 then f j else f (j + 1)) (fun j hj => by
        show (if j < j0 then f j else f (j + 1)) < n
        split
        · rename_i h
          have h1 := hr j (by omega)
          have h2 := hi j0 h0 j h
          omega
        · rename_i h
          have h1 := hr (j + 1) (by omega)
          have h2 := hi (j + 1) (by omega) j0 (by omega)
          omega) (fun k hk j hj => by
        show (if j < j0 then f j else f (j + 1)) ≠ (if k < j0 then f k else f (k + 1))
        split <;> split
        · exact hi k (by omega) j hj
        · exact hi (k + 1) (by omega) j (by omega)
        · omega
        · exact hi (k + 1) (by omega) (j + 1) (by omega))
      omega
    · have := pigeon n L f (fun j hj => by
        have h1 := hr j hj
        have h2 : f j ≠ n := fun e => h ⟨j, hj, e⟩
        omega) hi
      omega

/-- A made row of bools. -/
def BlsAt (w : World) (g n : Nat) (f : Nat → Bool) : Prop := w.rowIs g 4 n (fun i => .bool (f i))

theorem BlsAt.kept {w w' : World} {g n : Nat} {f : Nat → Bool} (h : BlsAt w g n f) (K : Kept w w') : BlsAt w' g n f := h.of_block (K.block g h.lt)

theorem BlsAt.ch {F : Nat → Prop} {w w' : World} {g n : Nat} {f : Nat → Bool} (h : BlsAt w g n f) (C : Ch F w w') (hF : ¬ F g) : BlsAt w' g n f := h.of_block (C.block g h.lt hF)

theorem BlsAt.cell {w : World} {g n : Nat} {f : Nat → Bool} (h : BlsAt w g n f) {i : Nat} (hi : i < n) : w.cell? ⟨g, i, none⟩ = some (.bool (f i)) := World.rowIs.cell h hi

theorem BlsAt.set {w : World} {g n : Nat} {f : Nat → Bool} (h : BlsAt w g n f) (i : Nat) (z : Bool) : BlsAt (w.setCell ⟨g, i, none⟩ (.bool z)) g n (fun j => if j = i then z else f j) :=
  (World.rowIs.set h i (.bool z)).congr (fun j _ => by by_cases e : j = i <;> simp [e])

theorem infoBl0 : (Tryd.prog.info? 4).map (fun i => (i.zero, i.size, i.bytes)) = some (some (.bool false), 1, 1) := by kernel_rfl

/-- Where a circle's edge begins, and ends. -/
def frm (es : List Ed) (c : List Int) (j : Nat) : Int := (edAt es (zAt c j).toNat).f

def tto (es : List Ed) (c : List Int) (j : Nat) : Int := (edAt es (zAt c j).toNat).t

/-- Potentials, one for each node, small enough. -/
def PotsOk (pot : List Int) (m N : Nat) : Prop := m = N ∧ ∀ i, i < N → -4398046511104 ≤ zAt pot i ∧ zAt pot i ≤ 4398046511104

end Go.Proofs.YtpdppjngbbkbbaaDoor

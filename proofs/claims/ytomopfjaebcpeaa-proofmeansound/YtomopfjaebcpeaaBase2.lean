/- More that holds of memory. -/
import Derived.Test.YtomopfjaebcpeaaBase
namespace Go.Proofs.Ytomopfjaebcpeaa
open Go.RowKit

theorem lt_of_cell {w : World} {p : Addr} {v : Value} (h : w.cell? p = some v) : p.block < w.heap.size := by
  simp only [World.cell?] at h
  by_cases hlt : p.block < w.heap.size
  · exact hlt
  · rw [Array.getElem?_eq_none (by omega)] at h
    simp at h

/-- A cell of another block stays while a box of two is written. -/
theorem cell_box2 {w : World} {b c o : Nat} {v u0 u1 : Value} (h : w.cell? ⟨c, o, none⟩ = some v) (hne : b ≠ c) : ((w.setCell ⟨b, 0, none⟩ u0).setCell ⟨b, 1, none⟩ u1).cell? ⟨c, o, none⟩ = some v := by
  rw [World.cell?_setCell_other _ _ _ _ (by intro e; exact hne (congrArg Addr.block e)), World.cell?_setCell_other _ _ _ _ (by intro e; exact hne (congrArg Addr.block e))]
  exact h

theorem kept_of_drew {w w' : World} (h : Kept w.drew w') : Kept w w' := ⟨h.os, h.tape, h.output, h.size, h.block⟩

/-- A new box of two: what it holds, and that it may be written. -/
theorem nbox {w w' : World} {b : Nat} {c0 c1 : Value} (k : Kept w w') (h0 : w.cell? ⟨b, 0, none⟩ = some c0) (h1 : w.cell? ⟨b, 1, none⟩ = some c1) (f0 : w.frozen? ⟨b, 0, none⟩ = false) (f1 : w.frozen? ⟨b, 1, none⟩ = false) :
    w'.cell? ⟨b, 0, none⟩ = some c0 ∧ w'.cell? ⟨b, 1, none⟩ = some c1 ∧ w'.frozen? ⟨b, 0, none⟩ = false ∧ w'.frozen? ⟨b, 1, none⟩ = false :=
  ⟨k.cell h0, k.cell h1, (Below.frozen (p := ⟨b, 0, none⟩) k (lt_of_cell h0)).trans f0, (Below.frozen (p := ⟨b, 1, none⟩) k (lt_of_cell h1)).trans f1⟩

/-- The facts on a new box, laid beside what was known. -/
theorem nb_intro {w w' : World} {T : TypeId} {G : Prop} (h : w'.cell? ⟨w.heap.size, 0, none⟩ = some (.bool false) → w'.cell? ⟨w.heap.size, 1, none⟩ = some (.slice none 0 0) → w'.frozen? ⟨w.heap.size, 0, none⟩ = false → w'.frozen? ⟨w.heap.size, 1, none⟩ = false →
    Kept (w.alloc (.cells #[.bool false, .slice none 0 0] T)) w' → G) : Kept (w.alloc (.cells #[.bool false, .slice none 0 0] T)) w' → G := fun k => by
  obtain ⟨a, b, c, d, _⟩ := box2 k
  exact h a b c d k
theorem nb_intro_drew {w w' : World} {T : TypeId} {G : Prop} (h : w'.cell? ⟨w.heap.size, 0, none⟩ = some (.bool false) → w'.cell? ⟨w.heap.size, 1, none⟩ = some (.slice none 0 0) → w'.frozen? ⟨w.heap.size, 0, none⟩ = false → w'.frozen? ⟨w.heap.size, 1, none⟩ = false →
    Kept (w.alloc (.cells #[.bool false, .slice none 0 0] T)).drew w' → G) : Kept (w.alloc (.cells #[.bool false, .slice none 0 0] T)).drew w' → G := fun k => by
  obtain ⟨a, b, c, d, _⟩ := box2 (kept_of_drew k)
  exact h a b c d k
theorem nb_keep {w w' : World} {b : Nat} {c0 c1 : Value} {G : Prop} (h0 : w.cell? ⟨b, 0, none⟩ = some c0) (h1 : w.cell? ⟨b, 1, none⟩ = some c1) (f0 : w.frozen? ⟨b, 0, none⟩ = false) (f1 : w.frozen? ⟨b, 1, none⟩ = false)
    (h : w'.cell? ⟨b, 0, none⟩ = some c0 → w'.cell? ⟨b, 1, none⟩ = some c1 → w'.frozen? ⟨b, 0, none⟩ = false → w'.frozen? ⟨b, 1, none⟩ = false → Kept w w' → G) : Kept w w' → G := fun k => by
  obtain ⟨a, b, c, d⟩ := nbox k h0 h1 f0 f1
  exact h a b c d k
end Go.Proofs.Ytomopfjaebcpeaa

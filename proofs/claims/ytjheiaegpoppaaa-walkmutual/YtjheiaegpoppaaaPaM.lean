/- The strong parts of three nodes in a row; two rows of numbers are one. -/
import Derived.Test.YtjheiaegpoppaaaPaL
import Derived.Test.YtjheiaegpoppaaaWkH
namespace Go.Proofs.Ytjheiaegpoppaaa
open Go.RowKit

theorem line_up {u v : Nat} (h : v ∈ outs line3 u) : u < v := by
  obtain ⟨e, he, h1, h2⟩ := outs_mem h
  simp only [line3, List.mem_cons, List.not_mem_nil, or_false] at he
  rcases he with rfl | rfl
  · simp only at h1 h2; omega
  · simp only at h1 h2; omega
theorem line_way {u v : Nat} (h : Way (outs line3) u v) : u ≤ v := by
  induction h with
  | refl => exact Nat.le_refl _
  | step _ hx ih => have := line_up hx; omega

theorem line_strong {c cnt : Nat → Int} (h : NumOf 3 (Mut line3) c cnt) : c 0 = 0 ∧ c 1 = 1 ∧ c 2 = 2 := by
  have no : ∀ v, v < 3 → ∀ u, u < v → ¬ Mut line3 u v := fun v _ u hu hm => by have := line_way hm.2; omega
  have a0 := h.new 0 (by omega) (no 0 (by omega))
  have a1 := h.new 1 (by omega) (no 1 (by omega))
  have a2 := h.new 2 (by omega) (no 2 (by omega))
  have z := h.zero
  simp only [Nat.zero_add, Nat.reduceAdd] at a0 a1 a2
  omega

theorem JRow.ofNum {w : World} {g n : Nat} {R : Nat → Nat → Prop} {c c' cnt cnt' : Nat → Int} (h : IntsAt w g n c') (N : NumOf n R c cnt) (N' : NumOf n R c' cnt') (hn : n ≤ maxLen) : JRow w (some ⟨g, 0, none⟩) n n ((List.range n).map c) :=
  ⟨by simp, Nat.le_refl _, hn, fun _ => ⟨g, 0, rfl, fun i hi => by
    rw [Nat.zero_add, h.cell hi, ← (N.uniq N' n (Nat.le_refl _)).2 i hi]
    simp [List.getD, hi]⟩⟩
end Go.Proofs.Ytjheiaegpoppaaa

/- Rows of answers; the cases of Order. -/
import Derived.Test.YtjheiaegpoppaaaWkT
import Derived.Test.YtjheiaegpoppaaaRightW
namespace Go.Proofs.Ytjheiaegpoppaaa
open Go.RowKit

theorem JRow.ofInts {w : World} {g n : Nat} {f : Nat → Int} (h : IntsAt w g n f) (hn : n ≤ maxLen) : JRow w (some ⟨g, 0, none⟩) n n ((List.range n).map f) :=
  ⟨by simp, Nat.le_refl _, hn, fun _ => ⟨g, 0, rfl, fun i hi => by
    rw [Nat.zero_add, h.cell hi]
    simp [List.getD, hi]⟩⟩

theorem JRow.nil (w : World) : JRow w none 0 0 [] := ⟨rfl, Nat.le_refl _, by unfold maxLen; omega, fun h => by omega⟩

theorem fault_small {nodes : Int} {es : List Ed} {c a : Int} (h : faultOf nodes es = (c, a)) : c = 0 ∨ c = 3 ∨ c = 30 ∨ c = 31 := by
  have hb : ∀ k, (faultTo nodes es k).1 = 0 ∨ (faultTo nodes es k).1 = 30 ∨ (faultTo nodes es k).1 = 31 := by
    intro k
    induction k with
    | zero => exact .inl rfl
    | succ k ih =>
      unfold faultTo
      split
      · exact ih
      · split
        · show badOf nodes (edAt es k) = 0 ∨ _
          unfold badOf
          split
          · exact .inr (.inl rfl)
          · split
            · exact .inr (.inr rfl)
            · exact .inl rfl
        · exact .inl rfl
  unfold faultOf at h
  split at h
  · simp at h; omega
  · have := hb es.length
    rw [h] at this
    simp only at this
    omega

/-- How far the order comes. -/
theorem ord_cases (es : List Ed) (n : Nat) : ∃ N, N ≤ n ∧ (∀ k, k < N → ∃ v, nextV es n (ordl es n k) = some v) ∧ (∀ k, k ≤ N → (ordl es n k).length = k) ∧ (N < n → nextV es n (ordl es n N) = none) := by
  have main : ∀ b, b ≤ n → ∃ N, N ≤ b ∧ (∀ k, k < N → ∃ v, nextV es n (ordl es n k) = some v) ∧ (∀ k, k ≤ N → (ordl es n k).length = k) ∧ (N < b → nextV es n (ordl es n N) = none) := by
    intro b
    induction b with
    | zero =>
      intro _
      refine ⟨0, Nat.le_refl _, fun k hk => absurd hk (Nat.not_lt_zero _), fun k hk => ?_, fun h => absurd h (Nat.not_lt_zero _)⟩
      cases k with
      | zero => rfl
      | succ k => exact absurd hk (Nat.not_succ_le_zero _)
    | succ b ih =>
      intro hb
      obtain ⟨N, h1, h2, h3, h4⟩ := ih (by omega)
      by_cases hN : N < b
      · exact ⟨N, by omega, h2, h3, fun _ => h4 hN⟩
      · obtain rfl : N = b := by omega
        cases hv : nextV es n (ordl es n N) with
        | none => exact ⟨N, by omega, h2, h3, fun _ => hv⟩
        | some v =>
          refine ⟨N + 1, by omega, fun k hk => ?_, fun k hk => ?_, fun h => by omega⟩
          · by_cases e : k = N
            · subst e; exact ⟨v, hv⟩
            · exact h2 k (by omega)
          · by_cases e : k = N + 1
            · subst e
              rw [ordl_succ hv, List.length_append, h3 N (Nat.le_refl _)]; rfl
            · exact h3 k (by omega)
  exact main n (Nat.le_refl _)
end Go.Proofs.Ytjheiaegpoppaaa

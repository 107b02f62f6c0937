/- Where there is an order, each edge goes on in it: the mathematics. Nothing of the program. -/
import Derived.Test.YtjheiaegpoppaaaWkU
namespace Go.Proofs.Ytjheiaegpoppaaa
open Go.RowKit

/-- The place of each node among the first i, from 1 on; 0: none. -/
def plc (O : List Nat) : Nat → Nat → Int
  | 0, _ => 0
  | i + 1, x => if x = O.getD i 0 then (i : Int) + 1 else plc O i x

section
variable {es : List Ed} {n : Nat} (hs : ∀ k, k < n → ∃ v, nextV es n (ordl es n k) = some v) (hl : ∀ k, k ≤ n → (ordl es n k).length = k)
include hs hl

theorem ordl_get : ∀ k, k ≤ n → ∀ j, j < k → nextV es n (ordl es n j) = some ((ordl es n k).getD j 0) := by
  intro k
  induction k with
  | zero => intro _ j hj; omega
  | succ k ih =>
    intro hk j hj
    obtain ⟨v, hv⟩ := hs k (by omega)
    have hlen := hl k (by omega)
    rw [ordl_succ hv]
    by_cases e : j = k
    · subst e
      rw [hv]
      have : (ordl es n j ++ [v]).getD j 0 = v := by simp [List.getD, hlen]
      rw [this]
    · have := ih (by omega) j (by omega)
      rw [this]
      have h2 : j < (ordl es n k).length := by omega
      simp [List.getD, List.getElem?_append_left h2]

theorem ordl_mem : ∀ k, k ≤ n → ∀ x, x ∈ ordl es n k ↔ ∃ j, j < k ∧ (ordl es n n).getD j 0 = x := by
  intro k
  induction k with
  | zero => intro _ x; exact ⟨(fun h => absurd h List.not_mem_nil), (fun ⟨j, h, _⟩ => absurd h (Nat.not_lt_zero _))⟩
  | succ k ih =>
    intro hk x
    have e := ordl_get hs hl n (Nat.le_refl _) k (by omega)
    rw [ordl_succ e, List.mem_append, List.mem_singleton, ih (by omega) x]
    constructor
    · rintro (⟨j, hj, h⟩ | h)
      · exact ⟨j, by omega, h⟩
      · exact ⟨k, by omega, h.symm⟩
    · rintro ⟨j, hj, h⟩
      by_cases ej : j = k
      · subst ej; exact .inr h.symm
      · exact .inl ⟨j, by omega, h⟩

theorem ordl_at {j : Nat} (hj : j < n) : (ordl es n n).getD j 0 < n ∧ (ordl es n n).getD j 0 ∉ ordl es n j ∧ cntIn es (ordl es n j) ((ordl es n n).getD j 0) = 0 := by
  obtain ⟨h1, h2, -⟩ := nextV_spec (ordl_get hs hl n (Nat.le_refl _) j hj)
  unfold mayV at h2
  simp only [Bool.and_eq_true, Bool.not_eq_true', List.contains_eq_mem, decide_eq_false_iff_not, decide_eq_true_eq] at h2
  exact ⟨h1, h2.1, h2.2⟩

theorem ordl_apart {i j : Nat} (hij : i < j) (hj : j < n) : (ordl es n n).getD i 0 ≠ (ordl es n n).getD j 0 := fun e =>
  (ordl_at hs hl hj).2.1 ((ordl_mem hs hl j (by omega) _).2 ⟨i, hij, e⟩)

theorem plc_at : ∀ i, i ≤ n → ∀ j, j < i → plc (ordl es n n) i ((ordl es n n).getD j 0) = (j : Int) + 1 := by
  intro i
  induction i with
  | zero => intro _ j hj; omega
  | succ i ih =>
    intro hi j hj
    unfold plc
    by_cases e : j = i
    · subst e; rw [if_pos rfl]
    · rw [if_neg (ordl_apart hs hl (by omega) (by omega)), ih (by omega) j (by omega)]

theorem plc_new {i : Nat} (hi : i < n) : plc (ordl es n n) i ((ordl es n n).getD i 0) = 0 := by
  have : ∀ k, k ≤ i → plc (ordl es n n) k ((ordl es n n).getD i 0) = 0 := by
    intro k
    induction k with
    | zero => intro _; rfl
    | succ k ih =>
      intro hk
      unfold plc
      rw [if_neg (Ne.symm (ordl_apart hs hl (by omega) hi)), ih (by omega)]
  exact this i (Nat.le_refl _)

theorem ordl_all {t : Nat} (ht : t < n) : ∃ j, j < n ∧ (ordl es n n).getD j 0 = t := by
  apply Classical.byContradiction
  intro hno
  have hnd : (t :: ((List.range n).map fun j => (ordl es n n).getD j 0)).Nodup := by
    rw [List.nodup_cons]
    constructor
    · intro hm
      simp only [List.mem_map, List.mem_range] at hm
      exact hno hm
    · unfold List.Nodup
      rw [List.pairwise_map]
      refine List.Pairwise.imp_of_mem ?_ List.pairwise_lt_range
      intro a b _ hb hab e
      exact ordl_apart hs hl hab (by simpa using hb) e
  have := nodup_len n _ hnd (fun u hu => by
    rcases List.mem_cons.1 hu with rfl | hu
    · exact ht
    · simp only [List.mem_map, List.mem_range] at hu
      obtain ⟨j, hj, rfl⟩ := hu
      exact (ordl_at hs hl hj).1)
  simp at this
  omega

/-- Each edge goes on. -/
theorem plc_edge (hrg : ∀ e ∈ es, 0 ≤ e.f ∧ e.f < (n : Int) ∧ 0 ≤ e.t ∧ e.t < (n : Int)) {e : Ed} (he : e ∈ es) {f t : Nat} (hf : e.f = (f : Int)) (ht : e.t = (t : Int)) : plc (ordl es n n) n f < plc (ordl es n n) n t := by
  have r := hrg e he
  obtain ⟨j, hj, rfl⟩ := ordl_all hs hl (t := t) (by omega)
  have h0 := (ordl_at hs hl hj).2.2
  have hm : f ∈ ordl es n j := by
    apply Classical.byContradiction
    intro hno
    refine cnt_pos he ht ?_ h0
    rw [hf, Int.toNat_natCast]
    simpa using hno
  obtain ⟨i, hi, rfl⟩ := (ordl_mem hs hl j (by omega) f).1 hm
  rw [plc_at hs hl n (Nat.le_refl _) i (by omega), plc_at hs hl n (Nat.le_refl _) j hj]
  omega
end
end Go.Proofs.Ytjheiaegpoppaaa

/- What the times of a visit are. Nothing of the program. -/
import Derived.Test.YtjheiaegpoppaaaViE
namespace Go.Proofs.Ytjheiaegpoppaaa
open Go.RowKit

/-- The times of a visit of all nodes: they nest. -/
structure Nested (es : List Ed) (n : Nat) (p q : Nat → Int) : Prop where
  pos : ∀ v, v < n → 0 ≤ p v ∧ p v < q v ∧ q v < 2 * (n : Int)
  apart : ∀ u v, u < n → v < n → u ≠ v → p u ≠ p v ∧ q u ≠ q v ∧ p u ≠ q v
  nest : ∀ u v, u < n → v < n → p u < p v → p v < q u → q v < q u
  edge : ∀ u v, u < n → v < n → v ∈ outs es u → p v < q u
  desc : ∀ u v, u < n → v < n → p u ≤ p v → q v ≤ q u → Way (outs es) u v

theorem nested_of {es : List Ed} {n : Nat} (hrg : ∀ e ∈ es, 0 ≤ e.f ∧ e.f < (n : Int) ∧ 0 ≤ e.t ∧ e.t < (n : Int)) : Nested es n (times es n).pre (times es n).post := by
  have hL := outs_lt hrg
  have low : ∀ x, tm0.pre x < (tm0.clk : Int) := fun _ => by show (-1 : Int) < ((0 : Nat) : Int); decide
  obtain ⟨G, hall, -⟩ := row_spec hL n (List.range n) tm0 (Un.le n tm0) (fun t ht => by simpa using ht) low
  have hb := row_bound hL n (List.range n) tm0 (fun t ht => by simpa using ht)
  have hu := Un.le n tm0
  have h0 : tm0.clk = 0 := rfl
  have hclk : (times es n).clk ≤ 2 * n := by
    show (rowF (outs es) n tm0 (List.range n)).clk ≤ 2 * n
    omega
  have neg : ∀ v, tm0.pre v < 0 := fun _ => by show (-1 : Int) < 0; decide
  have G' : Grew (outs es) tm0 (times es n) := G
  have set : ∀ v, v < n → 0 ≤ (times es n).pre v := fun v hv => hall v (by simpa using hv)
  refine ⟨fun v hv => ?_, fun u v hu hv ne => ?_, fun u v hu hv l1 l2 => ?_, fun u v hu hv hm => ?_, fun u v hu hv l1 l2 => ?_⟩
  · have := G'.new v (neg v) (set v hv)
    have := set v hv
    omega
  · exact G'.apart u v (neg u) (set u hu) (neg v) (set v hv) ne
  · exact G'.nest u v (neg u) (set u hu) (neg v) (set v hv) l1 l2
  · exact (G'.edge u (neg u) (set u hu) v hm).2
  · exact G'.desc u v (neg u) (set u hu) (neg v) (set v hv) l1 l2

theorem mem_outs {es : List Ed} {e : Ed} (he : e ∈ es) {f t : Nat} (hf : e.f = (f : Int)) (ht : e.t = (t : Int)) : t ∈ outs es f := by
  unfold outs nxt
  rw [List.take_length]
  simp only [List.mem_map, List.mem_filter]
  refine ⟨(t : Int), ⟨e, ⟨he, by rw [hf]; simp⟩, ht⟩, by simp⟩

/-- The times that the first k nodes use. -/
def usedT (p q : Nat → Int) : Nat → List Nat
  | 0 => []
  | k + 1 => usedT p q k ++ [(p k).toNat] ++ [(q k).toNat]

theorem usedT_mem {p q : Nat → Int} {x : Nat} : ∀ k, x ∈ usedT p q k → ∃ j, j < k ∧ (x = (p j).toNat ∨ x = (q j).toNat) := by
  intro k
  induction k with
  | zero => intro h; cases h
  | succ k ih =>
    intro h
    simp only [usedT, List.mem_append, List.mem_singleton] at h
    rcases h with (h | h) | h
    · obtain ⟨j, hj, e⟩ := ih h
      exact ⟨j, by omega, e⟩
    · exact ⟨k, by omega, .inl h⟩
    · exact ⟨k, by omega, .inr h⟩

theorem usedT_new {es : List Ed} {n : Nat} {p q : Nat → Int} (h : Nested es n p q) {k : Nat} (hk : k < n) : (usedT p q k).contains (p k).toNat = false ∧ (usedT p q k ++ [(p k).toNat]).contains (q k).toNat = false := by
  have pk := h.pos k hk
  have main : (p k).toNat ∉ usedT p q k ∧ (q k).toNat ∉ usedT p q k := by
    constructor
    · intro hm
      obtain ⟨j, hj, e⟩ := usedT_mem k hm
      have pj := h.pos j (by omega)
      have ap := h.apart j k (by omega) hk (by omega)
      have ap2 := h.apart k j hk (by omega) (by omega)
      rcases e with e | e <;> omega
    · intro hm
      obtain ⟨j, hj, e⟩ := usedT_mem k hm
      have pj := h.pos j (by omega)
      have ap := h.apart j k (by omega) hk (by omega)
      rcases e with e | e <;> omega
  refine ⟨by simpa using main.1, ?_⟩
  have : (q k).toNat ∉ usedT p q k ++ [(p k).toNat] := fun hm => by
    simp only [List.mem_append, List.mem_singleton] at hm
    rcases hm with hm | hm
    · exact main.2 hm
    · omega
  simpa using this
end Go.Proofs.Ytjheiaegpoppaaa

/- Mutual: the mathematics. A graph turned about has the same faults and the same strong parts. -/
import Derived.Test.YtjheiaegpoppaaaPaM
import Derived.Test.YtjheiaegpoppaaaEdgeX
namespace Go.Proofs.Ytjheiaegpoppaaa
open Go.RowKit

theorem edAt_turn (es : List Ed) (k : Nat) : edAt (es.map turn) k = turn (edAt es k) := by
  unfold edAt
  simp only [List.getD, List.getElem?_map]
  cases es[k]? <;> rfl

theorem bad_turn (n : Int) (e : Ed) : badOf n (turn e) = badOf n e := by
  unfold badOf turn
  simp only
  have h : (e.t < 0 ∨ e.f < 0 ∨ n ≤ e.t ∨ n ≤ e.f) ↔ (e.f < 0 ∨ e.t < 0 ∨ n ≤ e.f ∨ n ≤ e.t) := by omega
  simp only [h]

theorem faultTo_turn (n : Int) (es : List Ed) (k : Nat) : faultTo n (es.map turn) k = faultTo n es k := by
  induction k with
  | zero => rfl
  | succ k ih =>
    unfold faultTo
    rw [ih, edAt_turn, bad_turn]

theorem fault_turn (n : Int) (es : List Ed) : faultOf n (es.map turn) = faultOf n es := by
  unfold faultOf
  rw [List.length_map, faultTo_turn]

theorem way_turn {es : List Ed} {n : Nat} (hrg : ∀ e ∈ es, 0 ≤ e.f ∧ e.f < (n : Int) ∧ 0 ≤ e.t ∧ e.t < (n : Int)) {u v : Nat} (h : Way (outs es) u v) : Way (outs (es.map turn)) v u := by
  induction h with
  | refl => exact Way.refl _
  | @step v x _ hx ih => exact ((Way.refl x).step ((turn_outs hrg).2 hx)).trans ih
theorem way_turn' {es : List Ed} {n : Nat} (hrg : ∀ e ∈ es, 0 ≤ e.f ∧ e.f < (n : Int) ∧ 0 ≤ e.t ∧ e.t < (n : Int)) {u v : Nat} (h : Way (outs (es.map turn)) u v) : Way (outs es) v u := by
  induction h with
  | refl => exact Way.refl _
  | @step v x _ hx ih => exact ((Way.refl x).step ((turn_outs hrg).1 hx)).trans ih
theorem mut_turn {es : List Ed} {n : Nat} (hrg : ∀ e ∈ es, 0 ≤ e.f ∧ e.f < (n : Int) ∧ 0 ≤ e.t ∧ e.t < (n : Int)) (u v : Nat) : Mut (es.map turn) u v ↔ Mut es u v :=
  ⟨fun h => ⟨way_turn' hrg h.2, way_turn' hrg h.1⟩, fun h => ⟨way_turn hrg h.2, way_turn hrg h.1⟩⟩

theorem way_both {es : List Ed} {n : Nat} (hrg : ∀ e ∈ es, 0 ≤ e.f ∧ e.f < (n : Int) ∧ 0 ≤ e.t ∧ e.t < (n : Int)) {u v : Nat} (h : Way (outs es) u v) : Way (outs (both es)) u v := by
  induction h with
  | refl => exact Way.refl _
  | step _ hx ih =>
    obtain ⟨e, he, h1, h2⟩ := outs_mem hx
    have r := hrg e he
    exact ih.step (mem_outs' (List.mem_append.2 (.inl he)) h1 (by omega))
theorem way_back {es : List Ed} {n : Nat} (hrg : ∀ e ∈ es, 0 ≤ e.f ∧ e.f < (n : Int) ∧ 0 ≤ e.t ∧ e.t < (n : Int)) {u v : Nat} (h : Way (outs (both es)) u v) : Way (outs (both es)) v u := by
  induction h with
  | refl => exact Way.refl _
  | @step v x _ hx ih => exact ((Way.refl x).step (both_symm hrg hx)).trans ih

theorem owns_nilM {w : World} {base e : Nat} {n cap : Nat} {ao : Option Addr} {xs : List Value} (h : w.ownsRow base e 4 (.slice ao n cap) n xs) : ao = none → n = 0 ∧ cap = 0 := fun t => by
  subst t
  rcases h.2 with ⟨h1, h2⟩ | ⟨g, cp, cur, h1, _⟩
  · simp only [Value.slice.injEq] at h1; exact ⟨h2, h1.2.2⟩
  · simp at h1

/-- What the law holds the four lists against. -/
theorem mutual_of {es : List Ed} {n u v : Nat} (hrg : ∀ e ∈ es, 0 ≤ e.f ∧ e.f < (n : Int) ∧ 0 ≤ e.t ∧ e.t < (n : Int)) (hu : u < n) (hv : v < n) {s sc p pc a b : Nat → Int} (S : NumOf n (Mut es) s sc) (P : NumOf n (Way (outs (both es))) p pc) (A : Levs es n u a) (B : Levs es n v b) :
    (s u = s v ↔ (0 ≤ a v ∧ 0 ≤ b u)) ∧ (0 ≤ a v → p u = p v) := by
  have fs := (S.facts (fun u v _ _ h => ⟨h.2, h.1⟩) (fun u v x _ _ _ h k => ⟨h.1.trans k.1, k.2.trans h.2⟩) (fun u _ => ⟨Way.refl u, Way.refl u⟩) n (Nat.le_refl _)).2.2 u v hu hv
  have fp := (P.facts (fun u v _ _ h => way_back hrg h) (fun u v x _ _ _ h k => h.trans k) (fun u _ => Way.refl u) n (Nat.le_refl _)).2.2 u v hu hv
  rw [fs, A.reach hrg v, B.reach hrg u]
  exact ⟨Iff.rfl, fun h => fp.2 (way_both hrg h)⟩
end Go.Proofs.Ytjheiaegpoppaaa

/- What a flood's levels are. Nothing of the program. -/
import Derived.Test.YtjheiaegpoppaaaWkH
namespace Go.Proofs.Ytjheiaegpoppaaa
open Go.RowKit

/-- While node v's edges are gone along. -/
structure BIn (n s : Nat) (L : Nat → List Int) (v : Nat) (a : Int) (S : Fl) : Prop where
  qok : QOk n S
  s0 : S.lv s = 0
  low : ∀ u, -1 ≤ S.lv u
  mem : ∀ u, 0 ≤ S.lv u → u ∈ S.q
  zero : ∀ u, S.lv u = 0 → u = s
  pred : ∀ u, 0 < S.lv u → ∃ p, 0 ≤ S.lv p ∧ S.lv u = S.lv p + 1 ∧ ((u : Nat) : Int) ∈ L p
  sort : S.q.Pairwise (fun x y => S.lv x ≤ S.lv y)
  at_ : S.lv v = a
  pos : 0 ≤ a
  top : ∀ u ∈ S.q, S.lv u ≤ a + 1

theorem BIn.ent {n s : Nat} {L : Nat → List Int} {v : Nat} {a : Int} {S : Fl} (h : BIn n s L v a S) {x : Int} (hx : x ∈ L v) (hx0 : 0 ≤ x) (hxn : x.toNat < n) :
    BIn n s L v a (Go.Proofs.Ytjheiaegpoppaaa.ent lval v S x) ∧ (0 ≤ (Go.Proofs.Ytjheiaegpoppaaa.ent lval v S x).lv x.toNat ∧ (Go.Proofs.Ytjheiaegpoppaaa.ent lval v S x).lv x.toNat ≤ a + 1) := by
  have hat := h.at_
  have hpos := h.pos
  by_cases hneg : S.lv x.toNat < 0
  · have hQ := h.qok.ent (val := lval) (v := v) hxn (by unfold lval; omega)
    have hnm : x.toNat ∉ S.q := fun t => by have := h.qok.pos _ t; omega
    have e : Go.Proofs.Ytjheiaegpoppaaa.ent lval v S x = ⟨S.q ++ [x.toNat], fun j => if j = x.toNat then lval S.lv v else S.lv j⟩ := by unfold Go.Proofs.Ytjheiaegpoppaaa.ent; rw [if_pos hneg]
    rw [e] at hQ ⊢
    have hval : lval S.lv v = a + 1 := by unfold lval; rw [hat]
    have hvx : ¬ v = x.toNat := fun t => by rw [← t] at hneg; omega
    have hsx : ¬ s = x.toNat := fun t => by have := h.s0; rw [t] at this; omega
    refine ⟨⟨hQ, ?_, fun u => ?_, fun u hu => ?_, fun u hu => ?_, fun u hu => ?_, ?_, ?_, hpos, fun u hu => ?_⟩, ?_⟩
    · simp only [hsx, if_false]; exact h.s0
    · by_cases eu : u = x.toNat
      · simp only [eu, if_true, hval]; omega
      · simp only [eu, if_false]; exact h.low u
    · simp only [List.mem_append, List.mem_singleton]
      by_cases eu : u = x.toNat
      · exact .inr eu
      · simp only [eu, if_false] at hu; exact .inl (h.mem u hu)
    · by_cases eu : u = x.toNat
      · simp only [eu, if_true, hval] at hu; omega
      · simp only [eu, if_false] at hu; exact h.zero u hu
    · by_cases eu : u = x.toNat
      · refine ⟨v, ?_, ?_, ?_⟩
        · simp only [hvx, if_false, hat]; exact hpos
        · simp only [eu, hvx, if_true, if_false, hval, hat]
        · have : ((u : Nat) : Int) = x := by omega
          rw [this]; exact hx
      · simp only [eu, if_false] at hu ⊢
        obtain ⟨p, p1, p2, p3⟩ := h.pred u hu
        have ep : ¬ p = x.toNat := fun t => by rw [t] at p1; omega
        exact ⟨p, by simp only [ep, if_false]; exact p1, by simp only [ep, if_false]; exact p2, p3⟩
    · rw [List.pairwise_append]
      refine ⟨h.sort.imp_of_mem (fun {y z} hy hz hyz => ?_), by simp, fun y hy z hz => ?_⟩
      · have ey : ¬ y = x.toNat := fun t => hnm (t ▸ hy)
        have ez : ¬ z = x.toNat := fun t => hnm (t ▸ hz)
        simp only [ey, ez, if_false]; exact hyz
      · simp only [List.mem_singleton] at hz
        have ey : ¬ y = x.toNat := fun t => hnm (t ▸ hy)
        simp only [ey, hz, if_true, if_false, hval]
        exact h.top y hy
    · simp only [hvx, if_false]; exact hat
    · simp only [List.mem_append, List.mem_singleton] at hu
      by_cases eu : u = x.toNat
      · simp only [eu, if_true, hval]; omega
      · simp only [eu, if_false]
        rcases hu with hu | hu
        · exact h.top u hu
        · exact absurd hu eu
    · simp only [if_true, hval]; omega
  · have e : Go.Proofs.Ytjheiaegpoppaaa.ent lval v S x = S := by unfold Go.Proofs.Ytjheiaegpoppaaa.ent; rw [if_neg hneg]
    rw [e]
    exact ⟨h, by omega, h.top _ (h.mem _ (by omega))⟩

theorem BIn.fold {n s : Nat} {L : Nat → List Int} {v : Nat} {a : Int} (ts : List Int) : ∀ {S : Fl}, BIn n s L v a S → (∀ t ∈ ts, t ∈ L v ∧ 0 ≤ t ∧ t.toNat < n) →
    BIn n s L v a (ts.foldl (Go.Proofs.Ytjheiaegpoppaaa.ent lval v) S) ∧ (∀ u, 0 ≤ S.lv u → (ts.foldl (Go.Proofs.Ytjheiaegpoppaaa.ent lval v) S).lv u = S.lv u) ∧ ∀ t ∈ ts, 0 ≤ (ts.foldl (Go.Proofs.Ytjheiaegpoppaaa.ent lval v) S).lv t.toNat ∧ (ts.foldl (Go.Proofs.Ytjheiaegpoppaaa.ent lval v) S).lv t.toNat ≤ a + 1 := by
  induction ts with
  | nil => intro S h _; exact ⟨h, fun _ _ => rfl, fun t ht => by cases ht⟩
  | cons t ts ih =>
    intro S h hts
    obtain ⟨h1, h2, h3⟩ := hts t (by simp)
    obtain ⟨b1, b2⟩ := h.ent h1 h2 h3
    obtain ⟨c1, c2, c3⟩ := ih b1 (fun t' ht' => hts t' (by simp [ht']))
    rw [List.foldl_cons]
    have hk : ∀ u, 0 ≤ S.lv u → (Go.Proofs.Ytjheiaegpoppaaa.ent lval v S t).lv u = S.lv u := fun u hu => ent_keep hu
    refine ⟨c1, fun u hu => by rw [c2 u (by rw [hk u hu]; exact hu), hk u hu], fun t' ht' => ?_⟩
    simp only [List.mem_cons] at ht'
    rcases ht' with rfl | ht'
    · rw [c2 _ b2.1]; exact b2
    · exact c3 t' ht'

/-- Between two nodes. -/
structure BInv (n s : Nat) (L : Nat → List Int) (k : Nat) (S : Fl) : Prop where
  qok : QOk n S
  s0 : S.lv s = 0
  low : ∀ u, -1 ≤ S.lv u
  mem : ∀ u, 0 ≤ S.lv u → u ∈ S.q
  zero : ∀ u, S.lv u = 0 → u = s
  pred : ∀ u, 0 < S.lv u → ∃ p, 0 ≤ S.lv p ∧ S.lv u = S.lv p + 1 ∧ ((u : Nat) : Int) ∈ L p
  sort : S.q.Pairwise (fun x y => S.lv x ≤ S.lv y)
  near : k < S.q.length → ∀ u ∈ S.q, S.lv u ≤ S.lv (S.q.getD k 0) + 1
  done : ∀ j, j < k → ∀ t ∈ L (S.q.getD j 0), 0 ≤ S.lv t.toNat ∧ S.lv t.toNat ≤ S.lv (S.q.getD j 0) + 1

theorem BInv.start {n s : Nat} {L : Nat → List Int} (hs : s < n) : BInv n s L 0 ⟨[s], lv0 s⟩ := by
  refine ⟨⟨by simp, fun u hu => by simp at hu; subst hu; exact hs, fun u hu => by simp at hu; subst hu; simp [lv0]⟩, by simp [lv0], fun u => ?_, fun u hu => ?_, fun u hu => ?_, fun u hu => ?_, by simp, fun _ u hu => ?_, fun j hj => by omega⟩
  · show -1 ≤ lv0 s u
    unfold lv0; split <;> omega
  · have hu' : 0 ≤ lv0 s u := hu
    unfold lv0 at hu'
    by_cases e : u = s
    · simp [e]
    · rw [if_neg e] at hu'; omega
  · have hu' : lv0 s u = 0 := hu
    unfold lv0 at hu'
    by_cases e : u = s
    · exact e
    · rw [if_neg e] at hu'; omega
  · have hu' : 0 < lv0 s u := hu
    unfold lv0 at hu'
    split at hu' <;> omega
  · simp at hu
    subst hu
    simp [lv0]

theorem BInv.step {n s : Nat} {L : Nat → List Int} (hL : ∀ v, v < n → ∀ t ∈ L v, 0 ≤ t ∧ t.toNat < n) {s0 : Fl} {k : Nat} (h : BInv n s L k (it L lval s0 k)) (hk : k < (it L lval s0 k).q.length) : BInv n s L (k + 1) (it L lval s0 (k + 1)) := by
  show BInv n s L (k + 1) ((L ((it L lval s0 k).q.getD k 0)).foldl (Go.Proofs.Ytjheiaegpoppaaa.ent lval ((it L lval s0 k).q.getD k 0)) (it L lval s0 k))
  generalize it L lval s0 k = S at h hk ⊢
  obtain ⟨v, hv⟩ : ∃ v, S.q.getD k 0 = v := ⟨_, rfl⟩
  have hn := h.near hk
  rw [hv] at hn ⊢
  have hvm : v ∈ S.q := by rw [← hv]; simp [List.getD, hk]
  have hvn := h.qok.lt v hvm
  have hb : BIn n s L v (S.lv v) S := ⟨h.qok, h.s0, h.low, h.mem, h.zero, h.pred, h.sort, rfl, h.qok.pos v hvm, hn⟩
  obtain ⟨c1, c2, c3⟩ := hb.fold (L v) (fun t ht => ⟨ht, hL v hvn t ht⟩)
  obtain ⟨r, hr⟩ := fold_grow lval v (L v) S
  have hget : ∀ j, j < S.q.length → ((L v).foldl (Go.Proofs.Ytjheiaegpoppaaa.ent lval v) S).q.getD j 0 = S.q.getD j 0 := fun j hj => by
    rw [hr]
    simp [List.getD, List.getElem?_append_left hj]
  have hmemS : ∀ j, j < S.q.length → S.q.getD j 0 ∈ S.q := fun j hj => by simp [List.getD, hj]
  refine ⟨c1.qok, c1.s0, c1.low, c1.mem, c1.zero, c1.pred, c1.sort, fun hk1 u hu => ?_, fun j hj t ht => ?_⟩
  · have ht := c1.top u hu
    have hle : S.lv v ≤ ((L v).foldl (Go.Proofs.Ytjheiaegpoppaaa.ent lval v) S).lv (((L v).foldl (Go.Proofs.Ytjheiaegpoppaaa.ent lval v) S).q.getD (k + 1) 0) := by
      have hp := List.pairwise_iff_getElem.1 c1.sort k (k + 1) (by omega) hk1 (by omega)
      have e1 : ((L v).foldl (Go.Proofs.Ytjheiaegpoppaaa.ent lval v) S).q[k] = v := by
        have := hget k hk
        rw [hv] at this
        have hk' : k < ((L v).foldl (Go.Proofs.Ytjheiaegpoppaaa.ent lval v) S).q.length := by omega
        simpa [List.getD, hk'] using this
      have e2 : ((L v).foldl (Go.Proofs.Ytjheiaegpoppaaa.ent lval v) S).q[k + 1] = ((L v).foldl (Go.Proofs.Ytjheiaegpoppaaa.ent lval v) S).q.getD (k + 1) 0 := by simp [List.getD, hk1]
      rw [e1, e2, c1.at_] at hp
      exact hp
    omega
  · by_cases e : j = k
    · subst e
      rw [hget j hk, hv] at ht ⊢
      rw [c1.at_]
      exact c3 t ht
    · have hjl : j < S.q.length := by omega
      rw [hget j hjl] at ht ⊢
      obtain ⟨d1, d2⟩ := h.done j (by omega) t ht
      rw [c2 _ d1, c2 _ (h.qok.pos _ (hmemS j hjl))]
      exact ⟨d1, d2⟩

/-- What levels are: none is too great along an edge, each comes from one less. -/
structure Levs (es : List Ed) (n s : Nat) (lv : Nat → Int) : Prop where
  s0 : lv s = 0
  low : ∀ u, -1 ≤ lv u
  zero : ∀ u, lv u = 0 → u = s
  edge : ∀ e ∈ es, 0 ≤ lv e.f.toNat → 0 ≤ lv e.t.toNat ∧ lv e.t.toNat ≤ lv e.f.toNat + 1
  pred : ∀ u, 0 < lv u → ∃ e ∈ es, e.t = (u : Int) ∧ 0 ≤ lv e.f.toNat ∧ lv u = lv e.f.toNat + 1
  top : ∀ u, lv u ≤ (n : Int)

theorem mem_nxt {es : List Ed} {e : Ed} (he : e ∈ es) (hf : 0 ≤ e.f) : e.t ∈ nxt es es.length e.f.toNat := by
  unfold nxt
  rw [List.take_of_length_le (Nat.le_refl _)]
  simp only [List.mem_map, List.mem_filter, beq_iff_eq]
  exact ⟨e, ⟨he, by omega⟩, rfl⟩

theorem LevOf.levs {es : List Ed} {m n s : Nat} {lv : Nat → Int} (h : LevOf es m n s lv) (hm : m = es.length) (hs : s < n) (hrg : ∀ e ∈ es, 0 ≤ e.f ∧ e.f < (n : Int) ∧ 0 ≤ e.t ∧ e.t < (n : Int)) : Levs es n s lv := by
  obtain ⟨K, hR, hK, rfl⟩ := h.ex
  have hL : ∀ v, v < n → ∀ t ∈ nxt es m v, 0 ≤ t ∧ t.toNat < n := fun v _ t ht => by
    obtain ⟨e, he, -, rfl⟩ := nxt_mem ht
    have := hrg e he
    omega
  have hB : ∀ k, k ≤ K → BInv n s (nxt es m) k (it (nxt es m) lval ⟨[s], lv0 s⟩ k) := by
    intro k
    induction k with
    | zero => intro _; exact BInv.start hs
    | succ k ih => intro hk; exact (ih (by omega)).step hL (hR k (by omega))
  have hF := hB K (Nat.le_refl _)
  have hT := it_le (fun v hv t ht => (hL v hv t ht).2) (BInv.start (L := nxt es m) hs).qok (fun u => by show lv0 s u ≤ 0; unfold lv0; split <;> omega) K hR
  have hKn := hF.qok.len
  refine ⟨hF.s0, hF.low, hF.zero, fun e he hpos => ?_, fun u hu => ?_, fun u => by have := hT u; omega⟩
  · have hr := hrg e he
    obtain ⟨j, hj, hje⟩ := List.getElem_of_mem (hF.mem _ hpos)
    have hg : (it (nxt es m) lval ⟨[s], lv0 s⟩ K).q.getD j 0 = e.f.toNat := by simp [List.getD, hj, hje]
    have ht : e.t ∈ nxt es m ((it (nxt es m) lval ⟨[s], lv0 s⟩ K).q.getD j 0) := by rw [hg, hm]; exact mem_nxt he hr.1
    have := hF.done j (by omega) e.t ht
    rw [hg] at this
    exact this
  · obtain ⟨p, p1, p2, p3⟩ := hF.pred u hu
    obtain ⟨e, he, hf, ht⟩ := nxt_mem p3
    have hp : e.f.toNat = p := by omega
    exact ⟨e, he, ht, by rw [hp]; exact p1, by rw [hp]; exact p2⟩
end Go.Proofs.Ytjheiaegpoppaaa

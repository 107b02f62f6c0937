/- Where there is no order there is a circle: the mathematics. Nothing of the program. -/
import Derived.Test.YtjheiaegpoppaaaWkN
namespace Go.Proofs.Ytjheiaegpoppaaa
open Go.RowKit

/-- k steps of a function. -/
def itr (f : Nat → Nat) : Nat → Nat → Nat
  | 0, x => x
  | k + 1, x => f (itr f k x)

theorem itr_add (f : Nat → Nat) (a b x : Nat) : itr f (a + b) x = itr f a (itr f b x) := by
  induction a with
  | zero => rw [Nat.zero_add]; rfl
  | succ a ih => rw [show a + 1 + b = (a + b) + 1 by omega]; show f (itr f (a + b) x) = f (itr f a (itr f b x)); rw [ih]

theorem goes_round {f : Nat → Nat} {n x : Nat} (h : ∀ k, itr f k x < n) : ∃ L, 0 < L ∧ L ≤ n ∧ itr f L (itr f n x) = itr f n x := by
  by_cases hd : ∃ i j, i < j ∧ j ≤ n ∧ itr f i x = itr f j x
  · obtain ⟨i, j, hij, hjn, e⟩ := hd
    refine ⟨j - i, by omega, by omega, ?_⟩
    have h1 : itr f n x = itr f (n - i) (itr f i x) := by rw [← itr_add]; congr 1; omega
    have h2 : itr f (j - i) (itr f n x) = itr f (n - i) (itr f j x) := by rw [← itr_add, ← itr_add]; congr 1; omega
    rw [h2, h1, e]
  · exfalso
    have hn : ((List.range (n + 1)).map (fun k => itr f k x)).Nodup := by
      unfold List.Nodup
      rw [List.pairwise_map]
      refine List.Pairwise.imp_of_mem ?_ List.pairwise_lt_range
      intro a b _ hb hab e
      exact hd ⟨a, b, hab, by simp at hb; omega, e⟩
    have := nodup_len n _ hn (fun u hu => by
      simp only [List.mem_map] at hu
      obtain ⟨k, -, rfl⟩ := hu
      exact h k)
    simp at this
    omega

theorem least_of {P : Nat → Prop} : ∀ b, (∃ L, 0 < L ∧ L ≤ b ∧ P L) → ∃ L, 0 < L ∧ L ≤ b ∧ P L ∧ ∀ i, 0 < i → i < L → ¬ P i := by
  intro b
  induction b with
  | zero => rintro ⟨L, h1, h2, -⟩; omega
  | succ b ih =>
    rintro ⟨L, h1, h2, h3⟩
    by_cases hb : ∃ L, 0 < L ∧ L ≤ b ∧ P L
    · obtain ⟨M, a1, a2, a3, a4⟩ := ih hb
      exact ⟨M, a1, by omega, a3, a4⟩
    · exact ⟨L, h1, h2, h3, fun i hi hl hp => hb ⟨i, hi, by omega, hp⟩⟩

theorem itr_apart {f : Nat → Nat} {L y : Nat} (hL : itr f L y = y) (hm : ∀ i, 0 < i → i < L → ¬ itr f i y = y) {i j : Nat} (hij : i < j) (hj : j < L) : itr f i y ≠ itr f j y := by
  intro e
  have h1 : itr f (L - j + i) y = itr f (L - j) (itr f i y) := itr_add f _ _ _
  rw [e, ← itr_add, show L - j + j = L by omega, hL] at h1
  exact hm _ (by omega) (by omega) h1

theorem sub_len : ∀ (l l' : List Nat), l.Nodup → (∀ x ∈ l, x ∈ l') → l.length ≤ l'.length := by
  intro l
  induction l with
  | nil => intro l' _ _; simp
  | cons a t ih =>
    intro l' hn hs
    have ha := hs a (by simp)
    have := ih (l'.erase a) (List.nodup_cons.1 hn).2 (fun x hx => by
      have hne : x ≠ a := fun e => (List.nodup_cons.1 hn).1 (e ▸ hx)
      exact (List.mem_erase_of_ne hne).2 (hs x (by simp [hx])))
    rw [List.length_erase_of_mem ha] at this
    have hp := List.length_pos_of_mem ha
    simp only [List.length_cons]
    omega

/-- No node that is left may come. -/
structure Stuck (es : List Ed) (n : Nat) (O : List Nat) : Prop where
  inn : ∀ v, v < n → v ∉ O → ∃ e ∈ es, e.t = (v : Int) ∧ e.f.toNat ∉ O
  on : ∀ e ∈ es, e.f.toNat ∉ O → e.t.toNat ∉ O
  some : ∃ v, v < n ∧ v ∉ O

theorem ordl_back {es : List Ed} {n : Nat} (hrg : ∀ e ∈ es, 0 ≤ e.t) : ∀ k, ∀ e ∈ es, e.t.toNat ∈ ordl es n k → e.f.toNat ∈ ordl es n k := by
  intro k
  induction k with
  | zero => intro e _ h; cases h
  | succ k ih =>
    intro e he h
    cases hv : nextV es n (ordl es n k) with
    | none =>
      have e1 : ordl es n (k + 1) = ordl es n k := by
        show (match nextV es n (ordl es n k) with | some v => ordl es n k ++ [v] | none => ordl es n k) = _
        rw [hv]
      rw [e1] at h ⊢
      exact ih e he h
    | some v =>
      rw [ordl_succ hv] at h ⊢
      simp only [List.mem_append, List.mem_singleton] at h ⊢
      rcases h with h | h
      · exact .inl (ih e he h)
      · refine .inl ?_
        obtain ⟨-, h2, -⟩ := nextV_spec hv
        unfold mayV at h2
        simp only [Bool.and_eq_true, decide_eq_true_eq] at h2
        by_cases hc : e.f.toNat ∈ ordl es n k
        · exact hc
        · exact absurd h2.2 (cnt_pos he (by have := hrg e he; omega) (by simpa using hc))

theorem stuck_of {es : List Ed} {n N : Nat} (hrg : ∀ e ∈ es, 0 ≤ e.t) (hl : (ordl es n N).length = N) (hN : N < n) (he : nextV es n (ordl es n N) = none) : Stuck es n (ordl es n N) := by
  refine ⟨fun v hv hm => ?_, fun e he h t => h (ordl_back hrg N e he t), ?_⟩
  · unfold nextV at he
    rw [List.find?_eq_none] at he
    have := he v (by simpa using hv)
    unfold mayV at this
    have hc : (ordl es n N).contains v = false := by simpa using hm
    rw [hc] at this
    by_cases hx : ∃ e ∈ es, e.t = (v : Int) ∧ e.f.toNat ∉ ordl es n N
    · exact hx
    · exact absurd (cnt_zero (fun e he t => hx ⟨e, he, t.1, by simpa using t.2⟩)) (by simpa using this)
  · by_cases h : ∃ v, v < n ∧ v ∉ ordl es n N
    · exact h
    · have := sub_len (List.range n) (ordl es n N) List.nodup_range (fun x hx => by
        by_cases t : x ∈ ordl es n N
        · exact t
        · exact absurd ⟨x, by simpa using hx, t⟩ h)
      simp at this
      omega

/-- The last edge so far that leads into a node from one that is left. -/
def intoTo (es : List Ed) (O : List Nat) : Nat → Nat → Nat
  | 0, _ => 0
  | k + 1, x => if O.contains (edAt es k).f.toNat = false ∧ (edAt es k).t.toNat = x then k else intoTo es O k x
/-- Where the last such edge leads. -/
def lastTo (es : List Ed) (O : List Nat) : Nat → Nat
  | 0 => 0
  | k + 1 => if O.contains (edAt es k).f.toNat = false then (edAt es k).t.toNat else lastTo es O k

theorem intoTo_spec {es : List Ed} {O : List Nat} {x : Nat} : ∀ k, (∃ j, j < k ∧ O.contains (edAt es j).f.toNat = false ∧ (edAt es j).t.toNat = x) → intoTo es O k x < k ∧ O.contains (edAt es (intoTo es O k x)).f.toNat = false ∧ (edAt es (intoTo es O k x)).t.toNat = x := by
  intro k
  induction k with
  | zero => rintro ⟨j, h, -⟩; omega
  | succ k ih =>
    rintro ⟨j, hj, h1, h2⟩
    by_cases c : O.contains (edAt es k).f.toNat = false ∧ (edAt es k).t.toNat = x
    · have e : intoTo es O (k + 1) x = k := if_pos c
      rw [e]
      exact ⟨by omega, c⟩
    · have e : intoTo es O (k + 1) x = intoTo es O k x := if_neg c
      rw [e]
      have hjk : j ≠ k := fun t => c (t ▸ ⟨h1, h2⟩)
      obtain ⟨a, b⟩ := ih ⟨j, by omega, h1, h2⟩
      exact ⟨by omega, b⟩

theorem lastTo_spec {es : List Ed} {O : List Nat} : ∀ k, (∃ j, j < k ∧ O.contains (edAt es j).f.toNat = false) → ∃ j, j < k ∧ O.contains (edAt es j).f.toNat = false ∧ (edAt es j).t.toNat = lastTo es O k := by
  intro k
  induction k with
  | zero => rintro ⟨j, h, -⟩; omega
  | succ k ih =>
    rintro ⟨j, hj, h1⟩
    by_cases c : O.contains (edAt es k).f.toNat = false
    · have e : lastTo es O (k + 1) = (edAt es k).t.toNat := if_pos c
      exact ⟨k, by omega, c, e.symm⟩
    · have e : lastTo es O (k + 1) = lastTo es O k := if_neg c
      have hjk : j ≠ k := fun t => c (t ▸ h1)
      obtain ⟨i, a, b⟩ := ih ⟨j, by omega, h1⟩
      rw [e]
      exact ⟨i, by omega, b⟩

/-- One edge back. -/
def backE (es : List Ed) (O : List Nat) (x : Nat) : Nat := (edAt es (intoTo es O es.length x)).f.toNat

theorem edAt_mem {es : List Ed} {j : Nat} (h : j < es.length) : edAt es j ∈ es := by
  have : edAt es j = es[j] := by simp [edAt, List.getD, h]
  rw [this]; exact List.getElem_mem h

theorem Stuck.back {es : List Ed} {n : Nat} {O : List Nat} (h : Stuck es n O) (hrg : ∀ e ∈ es, 0 ≤ e.f ∧ e.f < (n : Int) ∧ 0 ≤ e.t ∧ e.t < (n : Int)) {x : Nat} (hx : x < n) (hO : x ∉ O) :
    intoTo es O es.length x < es.length ∧ (edAt es (intoTo es O es.length x)).t = (x : Int) ∧ (edAt es (intoTo es O es.length x)).f = (backE es O x : Int) ∧ backE es O x < n ∧ backE es O x ∉ O := by
  obtain ⟨e, he, h1, h2⟩ := h.inn x hx hO
  obtain ⟨j, hj, rfl⟩ := List.getElem_of_mem he
  have ej : edAt es j = es[j] := by simp [edAt, List.getD, hj]
  obtain ⟨a, b, c⟩ := intoTo_spec (es := es) (O := O) (x := x) es.length ⟨j, hj, by rw [ej]; simpa using h2, by rw [ej, h1, Int.toNat_natCast]⟩
  have r := hrg _ (edAt_mem a)
  have bk : (edAt es (intoTo es O es.length x)).f.toNat = backE es O x := rfl
  refine ⟨a, by omega, by omega, by omega, ?_⟩
  rw [bk] at b
  simpa using b

theorem Stuck.itr {es : List Ed} {n : Nat} {O : List Nat} (h : Stuck es n O) (hrg : ∀ e ∈ es, 0 ≤ e.f ∧ e.f < (n : Int) ∧ 0 ≤ e.t ∧ e.t < (n : Int)) {x : Nat} (hx : x < n) (hO : x ∉ O) : ∀ k, Go.Proofs.Ytjheiaegpoppaaa.itr (backE es O) k x < n ∧ Go.Proofs.Ytjheiaegpoppaaa.itr (backE es O) k x ∉ O := by
  intro k
  induction k with
  | zero => exact ⟨hx, hO⟩
  | succ k ih => exact (h.back hrg ih.1 ih.2).2.2.2

theorem Stuck.last {es : List Ed} {n : Nat} {O : List Nat} (h : Stuck es n O) (hrg : ∀ e ∈ es, 0 ≤ e.f ∧ e.f < (n : Int) ∧ 0 ≤ e.t ∧ e.t < (n : Int)) : lastTo es O es.length < n ∧ lastTo es O es.length ∉ O := by
  obtain ⟨v, hv, hO⟩ := h.some
  obtain ⟨e, he, h1, h2⟩ := h.inn v hv hO
  obtain ⟨j, hj, rfl⟩ := List.getElem_of_mem he
  have ej : edAt es j = es[j] := by simp [edAt, List.getD, hj]
  obtain ⟨i, hi, a, b⟩ := lastTo_spec (es := es) (O := O) es.length ⟨j, hj, by rw [ej]; simpa using h2⟩
  have r := hrg _ (edAt_mem hi)
  rw [← b]
  exact ⟨by omega, h.on _ (edAt_mem hi) (by simpa using a)⟩

/-- The edges of a circle. -/
structure Circ (es : List Ed) (c : List Nat) : Prop where
  pos : 0 < c.length
  le : c.length ≤ es.length
  lt : ∀ x ∈ c, x < es.length
  step : ∀ k, k < c.length → (edAt es (c.getD k 0)).t = (edAt es (c.getD ((k + 1) % c.length) 0)).f
  apart : (c.map fun i => (edAt es i).t).Nodup

/-- The circle that is told: L edges back from y. -/
def circL (es : List Ed) (O : List Nat) (y L : Nat) : List Nat := (List.range L).map fun i => intoTo es O es.length (Go.Proofs.Ytjheiaegpoppaaa.itr (backE es O) i y)

theorem Stuck.circ {es : List Ed} {n : Nat} {O : List Nat} (h : Stuck es n O) (hrg : ∀ e ∈ es, 0 ≤ e.f ∧ e.f < (n : Int) ∧ 0 ≤ e.t ∧ e.t < (n : Int)) {y L : Nat} (hy : y < n) (hO : y ∉ O) (h0 : 0 < L) (hL : Go.Proofs.Ytjheiaegpoppaaa.itr (backE es O) L y = y) (hm : ∀ i, 0 < i → i < L → ¬ Go.Proofs.Ytjheiaegpoppaaa.itr (backE es O) i y = y) : Circ es (circL es O y L).reverse := by
  have hit := fun k => h.itr hrg hy hO k
  have hb := fun k => h.back hrg (hit k).1 (hit k).2
  have hlen : (circL es O y L).length = L := by simp [circL]
  have hget : ∀ k, k < L → (circL es O y L).reverse.getD k 0 = intoTo es O es.length (Go.Proofs.Ytjheiaegpoppaaa.itr (backE es O) (L - 1 - k) y) := fun k hk => by
    simp [circL, List.getD, hk]
  have hlt : ∀ x ∈ circL es O y L, x < es.length := fun x hx => by
    simp only [circL, List.mem_map] at hx
    obtain ⟨i, -, rfl⟩ := hx
    exact (hb i).1
  have hap : ((circL es O y L).map fun i => (edAt es i).t).Nodup := by
    unfold circL
    rw [List.map_map]
    unfold List.Nodup
    rw [List.pairwise_map]
    refine List.Pairwise.imp_of_mem ?_ List.pairwise_lt_range
    intro a b _ hb' hab e
    simp only [Function.comp] at e
    rw [(hb a).2.1, (hb b).2.1] at e
    exact itr_apart hL hm hab (by simpa using hb') (by omega)
  refine ⟨by simp [hlen, h0], ?_, fun x hx => hlt x (by simpa using hx), fun k hk => ?_, ?_⟩
  · have hnd : (circL es O y L).Nodup := by
      unfold List.Nodup at hap ⊢
      rw [List.pairwise_map] at hap
      exact hap.imp (fun t e => t (by rw [e]))
    have := nodup_len es.length _ hnd hlt
    simpa using this
  · rw [List.length_reverse, hlen] at hk ⊢
    rw [hget k hk, (hb _).2.1]
    by_cases hl : k + 1 = L
    · rw [hl, Nat.mod_self, hget 0 h0, (hb _).2.2.1]
      have e1 : L - 1 - k = 0 := by omega
      have e2 : backE es O (Go.Proofs.Ytjheiaegpoppaaa.itr (backE es O) (L - 1 - 0) y) = Go.Proofs.Ytjheiaegpoppaaa.itr (backE es O) L y := by
        rw [show L = (L - 1 - 0) + 1 by omega]; rfl
      rw [e1, e2, hL]; rfl
    · rw [Nat.mod_eq_of_lt (by omega), hget (k + 1) (by omega), (hb _).2.2.1]
      have e2 : backE es O (Go.Proofs.Ytjheiaegpoppaaa.itr (backE es O) (L - 1 - (k + 1)) y) = Go.Proofs.Ytjheiaegpoppaaa.itr (backE es O) (L - 1 - k) y := by
        rw [show L - 1 - k = (L - 1 - (k + 1)) + 1 by omega]; rfl
      rw [e2]
  · rw [List.map_reverse]
    unfold List.Nodup at hap ⊢
    rw [List.pairwise_reverse]
    exact hap.imp (fun t e => t e.symm)

/-- Going back n times from the last such edge's end, one is on a circle. -/
theorem Stuck.round {es : List Ed} {n : Nat} {O : List Nat} (h : Stuck es n O) (hrg : ∀ e ∈ es, 0 ≤ e.f ∧ e.f < (n : Int) ∧ 0 ≤ e.t ∧ e.t < (n : Int)) :
    ∃ L, 0 < L ∧ L ≤ n ∧ Go.Proofs.Ytjheiaegpoppaaa.itr (backE es O) L (Go.Proofs.Ytjheiaegpoppaaa.itr (backE es O) n (lastTo es O es.length)) = Go.Proofs.Ytjheiaegpoppaaa.itr (backE es O) n (lastTo es O es.length) ∧ ∀ i, 0 < i → i < L → ¬ Go.Proofs.Ytjheiaegpoppaaa.itr (backE es O) i (Go.Proofs.Ytjheiaegpoppaaa.itr (backE es O) n (lastTo es O es.length)) = Go.Proofs.Ytjheiaegpoppaaa.itr (backE es O) n (lastTo es O es.length) := by
  obtain ⟨h1, h2⟩ := h.last hrg
  exact least_of n (goes_round (fun k => (h.itr hrg h1 h2 k).1))
end Go.Proofs.Ytjheiaegpoppaaa

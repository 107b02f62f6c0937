/- partOf: the neighbours, and what is come to. The mathematics. -/
import Derived.Test.YtpdppjngbbkbbaaDoorCnA
namespace Go.Proofs.YtpdppjngbbkbbaaDoor
open Go.RowKit

/-- What lies beside a node, by the first k edges. -/
def adj (es : List Ed) : Nat → Nat → List Int
  | 0, _ => []
  | k + 1, v => (adj es k v ++ (if (edAt es k).f = (v : Int) then [(edAt es k).t] else [])) ++ (if (edAt es k).t = (v : Int) then [(edAt es k).f] else [])
theorem adj_succ (es : List Ed) (k v : Nat) : adj es (k + 1) v = (adj es k v ++ (if (edAt es k).f = (v : Int) then [(edAt es k).t] else [])) ++ (if (edAt es k).t = (v : Int) then [(edAt es k).f] else []) := rfl
theorem adj_len (es : List Ed) (k v : Nat) : (adj es k v).length ≤ 2 * k := by
  induction k with
  | zero => simp [adj]
  | succ k ih =>
    rw [adj_succ, List.length_append, List.length_append]
    split <;> split <;> simp <;> omega
theorem adj_mem {es : List Ed} {k v : Nat} {x : Int} : x ∈ adj es k v ↔ ∃ i, i < k ∧ (((edAt es i).f = (v : Int) ∧ (edAt es i).t = x) ∨ ((edAt es i).t = (v : Int) ∧ (edAt es i).f = x)) := by
  induction k with
  | zero => simp [adj]
  | succ k ih =>
    rw [adj_succ, List.mem_append, List.mem_append, ih]
    constructor
    · rintro ((⟨i, hi, h⟩ | h) | h)
      · exact ⟨i, by omega, h⟩
      · split at h
        · rename_i hf; simp at h; exact ⟨k, by omega, .inl ⟨hf, h.symm⟩⟩
        · cases h
      · split at h
        · rename_i hf; simp at h; exact ⟨k, by omega, .inr ⟨hf, h.symm⟩⟩
        · cases h
    · rintro ⟨i, hi, h⟩
      by_cases e : i = k
      · subst e
        rcases h with ⟨h1, h2⟩ | ⟨h1, h2⟩
        · exact .inl (.inr (by rw [if_pos h1]; simp [h2]))
        · exact .inr (by rw [if_pos h1]; simp [h2])
      · exact .inl (.inl ⟨i, by omega, h⟩)

theorem mem_at {es : List Ed} {i : Nat} (h : i < es.length) : edAt es i ∈ es := by
  have : edAt es i = es[i] := by simp [edAt, List.getD, h]
  rw [this]; exact List.getElem_mem h

/-- Beside a node lies what an edge joins it with, whichever way. -/
theorem adj_outs {es : List Ed} {n : Nat} (hrg : ∀ e ∈ es, 0 ≤ e.f ∧ e.f < (n : Int) ∧ 0 ≤ e.t ∧ e.t < (n : Int)) (v : Nat) (x : Nat) : (x : Int) ∈ adj es es.length v ↔ x ∈ outs (both es) v := by
  rw [adj_mem]
  constructor
  · rintro ⟨i, hi, ⟨h1, h2⟩ | ⟨h1, h2⟩⟩
    · exact mem_outs' (e := edAt es i) (List.mem_append.2 (.inl (mem_at hi))) h1 h2
    · exact mem_outs' (e := turn (edAt es i)) (List.mem_append.2 (.inr (List.mem_map.2 ⟨_, mem_at hi, rfl⟩))) h1 h2
  · intro h
    obtain ⟨e, he, h1, h2⟩ := outs_mem h
    rcases List.mem_append.1 he with he | he
    · obtain ⟨i, hi, rfl⟩ := memW_edAt he
      have := hrg _ he
      exact ⟨i, hi, .inl ⟨h1, by omega⟩⟩
    · obtain ⟨d, hd, rfl⟩ := List.mem_map.1 he
      obtain ⟨i, hi, rfl⟩ := memW_edAt hd
      have := hrg _ hd
      exact ⟨i, hi, .inr ⟨h1, by show (edAt es i).f = (x : Int); have h3 : (edAt es i).f.toNat = x := h2; omega⟩⟩

/-- One more in the queue, unless it is there. -/
def entq (q : List Nat) (x : Int) : List Nat := if x.toNat ∈ q then q else q ++ [x.toNat]
theorem entq_in {q : List Nat} {x : Nat} (h : x ∈ q) : entq q (x : Int) = q := by unfold entq; rw [Int.toNat_natCast, if_pos h]
theorem entq_out {q : List Nat} {x : Nat} (h : x ∉ q) : entq q (x : Int) = q ++ [x] := by unfold entq; rw [Int.toNat_natCast, if_neg h]
/-- The queue behind k nodes. -/
def itq (L : Nat → List Int) (s : Nat) : Nat → List Nat
  | 0 => [s]
  | k + 1 => (L ((itq L s k).getD k 0)).foldl entq (itq L s k)
/-- The queue behind k nodes and j neighbours of the next. -/
def itpq (L : Nat → List Int) (s k j : Nat) : List Nat := ((L ((itq L s k).getD k 0)).take j).foldl entq (itq L s k)
theorem itpq_zero (L : Nat → List Int) (s k : Nat) : itpq L s k 0 = itq L s k := rfl
theorem itpq_all (L : Nat → List Int) (s k j : Nat) (hj : (L ((itq L s k).getD k 0)).length ≤ j) : itpq L s k j = itq L s (k + 1) := by
  unfold itpq
  rw [List.take_of_length_le hj]
  rfl
theorem itpq_succ (L : Nat → List Int) (s k j : Nat) (hj : j < (L ((itq L s k).getD k 0)).length) : itpq L s k (j + 1) = entq (itpq L s k j) ((L ((itq L s k).getD k 0)).getD j 0) := by
  unfold itpq
  generalize (itq L s k).getD k 0 = v at hj ⊢
  have e : (L v).getD j 0 = (L v)[j] := by simp [List.getD, hj]
  rw [List.take_succ_eq_append_getElem hj, List.foldl_append, e]
  rfl

theorem entq_grow (q : List Nat) (x : Int) : ∃ r, entq q x = q ++ r := by
  unfold entq
  split
  · exact ⟨[], by simp⟩
  · exact ⟨_, rfl⟩
theorem foldq_grow (ts : List Int) : ∀ q : List Nat, ∃ r, ts.foldl entq q = q ++ r := by
  induction ts with
  | nil => intro q; exact ⟨[], by simp⟩
  | cons t ts ih =>
    intro q
    obtain ⟨r1, h1⟩ := entq_grow q t
    obtain ⟨r2, h2⟩ := ih (entq q t)
    exact ⟨r1 ++ r2, by rw [List.foldl_cons, h2, h1, List.append_assoc]⟩

/-- What holds of every queue. -/
structure QQ (R : Nat → Prop) (n : Nat) (q : List Nat) : Prop where
  nodup : q.Nodup
  lt : ∀ u ∈ q, u < n
  way : ∀ u ∈ q, R u
theorem QQ.len {R : Nat → Prop} {n : Nat} {q : List Nat} (h : QQ R n q) : q.length ≤ n := nodup_len n _ h.nodup h.lt
theorem QQ.ent {R : Nat → Prop} {n : Nat} {q : List Nat} (h : QQ R n q) {x : Int} (hx : x.toNat < n) (hr : R x.toNat) : QQ R n (entq q x) := by
  unfold entq
  split
  · exact h
  · rename_i hno
    refine ⟨?_, fun u hu => ?_, fun u hu => ?_⟩
    · rw [List.nodup_append]
      exact ⟨h.nodup, by simp, fun a ha b hb => by simp at hb; subst hb; intro e; exact hno (e ▸ ha)⟩
    · simp only [List.mem_append, List.mem_singleton] at hu
      rcases hu with hu | rfl
      · exact h.lt u hu
      · exact hx
    · simp only [List.mem_append, List.mem_singleton] at hu
      rcases hu with hu | rfl
      · exact h.way u hu
      · exact hr
theorem QQ.fold {R : Nat → Prop} {n : Nat} (ts : List Int) (hts : ∀ t ∈ ts, t.toNat < n ∧ R t.toNat) : ∀ {q : List Nat}, QQ R n q → QQ R n (ts.foldl entq q) := by
  induction ts with
  | nil => intro q h; exact h
  | cons t ts ih =>
    intro q h
    rw [List.foldl_cons]
    exact ih (fun t' ht' => hts t' (by simp [ht'])) (h.ent (hts t (by simp)).1 (hts t (by simp)).2)

section
variable {n : Nat} {L : Nat → List Int} (hL : ∀ v, v < n → ∀ t ∈ L v, 0 ≤ t ∧ t < (n : Int)) {s : Nat} (hs : s < n)
include hL hs
theorem itq_ok : ∀ k, (∀ j, j < k → j < (itq L s j).length) → QQ (Way (fun v => (L v).map Int.toNat) s) n (itq L s k) := by
  intro k
  induction k with
  | zero => intro _; exact ⟨by simp [itq], fun u hu => by simp [itq] at hu; subst hu; exact hs, fun u hu => by simp [itq] at hu; subst hu; exact .refl _⟩
  | succ k ih =>
    intro hk
    have h := ih (fun j hj => hk j (by omega))
    have hl := hk k (by omega)
    have hm : (itq L s k).getD k 0 ∈ itq L s k := by simp [List.getD, hl]
    refine h.fold _ (fun t ht => ?_)
    have := hL _ (h.lt _ hm) t ht
    exact ⟨by omega, (h.way _ hm).step (List.mem_map.2 ⟨t, ht, rfl⟩)⟩
theorem itpq_ok (k j : Nat) (hk : ∀ j, j ≤ k → j < (itq L s j).length) : QQ (Way (fun v => (L v).map Int.toNat) s) n (itpq L s k j) ∧ (itq L s k).getD k 0 < n := by
  have h := itq_ok hL hs k (fun j hj => hk j (by omega))
  have hl := hk k (by omega)
  have hm : (itq L s k).getD k 0 ∈ itq L s k := by simp [List.getD, hl]
  refine ⟨h.fold _ (fun t ht => ?_), h.lt _ hm⟩
  have ht' := List.mem_of_mem_take ht
  have := hL _ (h.lt _ hm) t ht'
  exact ⟨by omega, (h.way _ hm).step (List.mem_map.2 ⟨t, ht', rfl⟩)⟩
end

theorem itq_grow (L : Nat → List Int) (s k : Nat) : ∃ r, itq L s (k + 1) = itq L s k ++ r := foldq_grow _ _
theorem itq_pre (L : Nat → List Int) (s k m : Nat) : ∃ r, itq L s (k + m) = itq L s k ++ r := by
  induction m with
  | zero => exact ⟨[], by simp⟩
  | succ m ih =>
    obtain ⟨r, hr⟩ := ih
    obtain ⟨r2, h2⟩ := itq_grow L s (k + m)
    exact ⟨r ++ r2, by rw [show k + (m + 1) = k + m + 1 by omega, h2, hr, List.append_assoc]⟩
theorem foldq_mem (ts : List Int) : ∀ (q : List Nat) (t : Int), t ∈ ts → t.toNat ∈ ts.foldl entq q := by
  induction ts with
  | nil => intro q t h; cases h
  | cons a ts ih =>
    intro q t h
    rw [List.foldl_cons]
    rcases List.mem_cons.1 h with rfl | h
    · obtain ⟨r, hr⟩ := foldq_grow ts (entq q t)
      rw [hr]
      refine List.mem_append.2 (.inl ?_)
      unfold entq
      split
      · assumption
      · simp
    · exact ih _ _ h

/-- Where the queue ends, all that can be come to is in it. -/
theorem itq_end {n : Nat} {L : Nat → List Int} (hL : ∀ v, v < n → ∀ t ∈ L v, 0 ≤ t ∧ t < (n : Int)) {s : Nat} (hs : s < n) {K : Nat} (hK : ∀ j, j < K → j < (itq L s j).length) (hE : (itq L s K).length = K) (u : Nat) :
    u ∈ itq L s K ↔ Way (fun v => (L v).map Int.toNat) s u := by
  constructor
  · exact fun h => (itq_ok hL hs K hK).way u h
  · intro h
    induction h with
    | refl =>
      obtain ⟨r, hr⟩ := itq_pre L s 0 K
      rw [Nat.zero_add] at hr
      rw [hr]
      exact List.mem_append.2 (.inl (by simp [itq]))
    | step hw hx ih =>
      rename_i v x
      obtain ⟨i, hi, he⟩ := List.getElem_of_mem ih
      have hiK : i < K := by omega
      obtain ⟨r, hr⟩ := itq_pre L s (i + 1) (K - (i + 1))
      rw [show i + 1 + (K - (i + 1)) = K by omega] at hr
      rw [hr]
      refine List.mem_append.2 (.inl ?_)
      obtain ⟨t, ht, rfl⟩ := List.mem_map.1 hx
      refine foldq_mem _ _ _ ?_
      have hli := hK i hiK
      obtain ⟨r2, hr2⟩ := itq_pre L s i (K - i)
      rw [show i + (K - i) = K by omega] at hr2
      have : (itq L s i).getD i 0 = v := by
        have e1 : (itq L s K)[i]? = some v := by rw [List.getElem?_eq_getElem hi, he]
        rw [hr2, List.getElem?_append_left hli] at e1
        simp [List.getD, e1]
      rw [this]
      exact ht
end Go.Proofs.YtpdppjngbbkbbaaDoor

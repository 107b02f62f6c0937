/- Going on from a node, the nearest first: the mathematics of a flood. Nothing of the program. -/
import Derived.Test.YtjheiaegpoppaaaWkB
namespace Go.Proofs.Ytjheiaegpoppaaa
open Go.RowKit

theorem nodup_len : ∀ (n : Nat) (l : List Nat), l.Nodup → (∀ u ∈ l, u < n) → l.length ≤ n := by
  intro n
  induction n with
  | zero => intro l _ h; cases l with
    | nil => simp
    | cons a l => exact absurd (h a (by simp)) (by omega)
  | succ n ih =>
    intro l hn h
    have h1 : (l.erase n).length ≤ n := ih _ (hn.erase n) (fun u hu => by
      rw [hn.mem_erase_iff] at hu
      have := h u hu.2
      omega)
    rw [List.length_erase] at h1
    split at h1 <;> omega

/-- The queue and what is known of each node. -/
structure Fl where
  q : List Nat
  lv : Nat → Int

/-- An edge from v leads to a node. -/
def ent (val : (Nat → Int) → Nat → Int) (v : Nat) (s : Fl) (x : Int) : Fl :=
  if s.lv x.toNat < 0 then ⟨s.q ++ [x.toNat], fun j => if j = x.toNat then val s.lv v else s.lv j⟩ else s

/-- Behind k nodes. -/
def it (L : Nat → List Int) (val : (Nat → Int) → Nat → Int) (s0 : Fl) : Nat → Fl
  | 0 => s0
  | k + 1 => (L ((it L val s0 k).q.getD k 0)).foldl (ent val ((it L val s0 k).q.getD k 0)) (it L val s0 k)

/-- Behind k nodes and j edges of the next. -/
def itp (L : Nat → List Int) (val : (Nat → Int) → Nat → Int) (s0 : Fl) (k j : Nat) : Fl :=
  ((L ((it L val s0 k).q.getD k 0)).take j).foldl (ent val ((it L val s0 k).q.getD k 0)) (it L val s0 k)

theorem itp_zero (L : Nat → List Int) (val : (Nat → Int) → Nat → Int) (s0 : Fl) (k : Nat) : itp L val s0 k 0 = it L val s0 k := rfl
theorem itp_all (L : Nat → List Int) (val : (Nat → Int) → Nat → Int) (s0 : Fl) (k j : Nat) (hj : (L ((it L val s0 k).q.getD k 0)).length ≤ j) : itp L val s0 k j = it L val s0 (k + 1) := by
  unfold itp
  rw [List.take_of_length_le hj]
  rfl
theorem itp_succ (L : Nat → List Int) (val : (Nat → Int) → Nat → Int) (s0 : Fl) (k j : Nat) (hj : j < (L ((it L val s0 k).q.getD k 0)).length) :
    itp L val s0 k (j + 1) = ent val ((it L val s0 k).q.getD k 0) (itp L val s0 k j) ((L ((it L val s0 k).q.getD k 0)).getD j 0) := by
  unfold itp
  generalize (it L val s0 k).q.getD k 0 = v at hj ⊢
  have e : (L v).getD j 0 = (L v)[j] := by simp [List.getD, hj]
  rw [List.take_succ_eq_append_getElem hj, List.foldl_append, e]
  rfl

/-- What holds of every queue. -/
structure QOk (n : Nat) (s : Fl) : Prop where
  nodup : s.q.Nodup
  lt : ∀ u ∈ s.q, u < n
  pos : ∀ u ∈ s.q, 0 ≤ s.lv u

theorem QOk.len {n : Nat} {s : Fl} (h : QOk n s) : s.q.length ≤ n := nodup_len n _ h.nodup h.lt

theorem QOk.ent {n : Nat} {s : Fl} (h : QOk n s) {val : (Nat → Int) → Nat → Int} {v : Nat} {x : Int} (hx : x.toNat < n) (hv : 0 ≤ val s.lv v) : QOk n (ent val v s x) := by
  unfold Go.Proofs.Ytjheiaegpoppaaa.ent
  split
  · rename_i hneg
    have hnot : x.toNat ∉ s.q := fun t => by have := h.pos _ t; omega
    refine ⟨?_, fun u hu => ?_, fun u hu => ?_⟩
    · rw [List.nodup_append]
      exact ⟨h.nodup, by simp, fun a ha b hb => by simp at hb; subst hb; intro e; exact hnot (e ▸ ha)⟩
    · simp only [List.mem_append, List.mem_singleton] at hu
      rcases hu with hu | rfl
      · exact h.lt u hu
      · exact hx
    · simp only [List.mem_append, List.mem_singleton] at hu
      by_cases e : u = x.toNat
      · simp [e, hv]
      · simp only [e, if_false]
        rcases hu with hu | hu
        · exact h.pos u hu
        · exact absurd hu e
  · exact h

/-- The queue only grows. -/
theorem ent_grow (val : (Nat → Int) → Nat → Int) (v : Nat) (s : Fl) (x : Int) : ∃ r, (ent val v s x).q = s.q ++ r := by
  unfold ent
  split
  · exact ⟨_, rfl⟩
  · exact ⟨[], by simp⟩

theorem fold_grow (val : (Nat → Int) → Nat → Int) (v : Nat) (ts : List Int) : ∀ s : Fl, ∃ r, (ts.foldl (ent val v) s).q = s.q ++ r := by
  induction ts with
  | nil => intro s; exact ⟨[], by simp⟩
  | cons t ts ih =>
    intro s
    obtain ⟨r1, h1⟩ := ent_grow val v s t
    obtain ⟨r2, h2⟩ := ih (ent val v s t)
    exact ⟨r1 ++ r2, by rw [List.foldl_cons, h2, h1, List.append_assoc]⟩

theorem QOk.fold {n : Nat} {val : (Nat → Int) → Nat → Int} {v : Nat} (hval : ∀ lv : Nat → Int, 0 ≤ lv v → 0 ≤ val lv v) (ts : List Int) (hts : ∀ t ∈ ts, t.toNat < n) : ∀ {s : Fl}, QOk n s → v ∈ s.q → QOk n (ts.foldl (Go.Proofs.Ytjheiaegpoppaaa.ent val v) s) := by
  induction ts with
  | nil => intro s h _; exact h
  | cons t ts ih =>
    intro s h hv
    rw [List.foldl_cons]
    refine ih (fun t' ht' => hts t' (by simp [ht'])) (h.ent (hts t (by simp)) (hval _ (h.pos v hv))) ?_
    obtain ⟨r, hr⟩ := ent_grow val v s t
    rw [hr]
    simp [hv]

theorem QOk.it {n : Nat} {L : Nat → List Int} {val : (Nat → Int) → Nat → Int} {s0 : Fl} (hval : ∀ (lv : Nat → Int) v, 0 ≤ lv v → 0 ≤ val lv v) (hL : ∀ v, v < n → ∀ t ∈ L v, t.toNat < n) (h0 : QOk n s0) :
    ∀ k, (∀ j, j < k → j < (Go.Proofs.Ytjheiaegpoppaaa.it L val s0 j).q.length) → QOk n (Go.Proofs.Ytjheiaegpoppaaa.it L val s0 k) := by
  intro k
  induction k with
  | zero => intro _; exact h0
  | succ k ih =>
    intro hk
    have h := ih (fun j hj => hk j (by omega))
    have hl := hk k (by omega)
    have hm : (Go.Proofs.Ytjheiaegpoppaaa.it L val s0 k).q.getD k 0 ∈ (Go.Proofs.Ytjheiaegpoppaaa.it L val s0 k).q := by
      simp [List.getD, hl]
    exact h.fold (fun lv hp => hval lv _ hp) _ (fun t ht => hL _ (h.lt _ hm) t ht) hm

theorem QOk.itp {n : Nat} {L : Nat → List Int} {val : (Nat → Int) → Nat → Int} {s0 : Fl} (hval : ∀ (lv : Nat → Int) v, 0 ≤ lv v → 0 ≤ val lv v) (hL : ∀ v, v < n → ∀ t ∈ L v, t.toNat < n) (h0 : QOk n s0)
    (k j : Nat) (hk : ∀ j, j ≤ k → j < (Go.Proofs.Ytjheiaegpoppaaa.it L val s0 j).q.length) : QOk n (Go.Proofs.Ytjheiaegpoppaaa.itp L val s0 k j) ∧ (Go.Proofs.Ytjheiaegpoppaaa.it L val s0 k).q.getD k 0 ∈ (Go.Proofs.Ytjheiaegpoppaaa.itp L val s0 k j).q ∧ (Go.Proofs.Ytjheiaegpoppaaa.it L val s0 k).q.getD k 0 < n := by
  have h := QOk.it hval hL h0 k (fun j hj => hk j (by omega))
  have hl := hk k (by omega)
  have hm : (Go.Proofs.Ytjheiaegpoppaaa.it L val s0 k).q.getD k 0 ∈ (Go.Proofs.Ytjheiaegpoppaaa.it L val s0 k).q := by
    simp [List.getD, hl]
  refine ⟨h.fold (fun lv hp => hval lv _ hp) _ (fun t ht => hL _ (h.lt _ hm) t (List.mem_of_mem_take ht)) hm, ?_, h.lt _ hm⟩
  obtain ⟨r, hr⟩ := fold_grow val ((Go.Proofs.Ytjheiaegpoppaaa.it L val s0 k).q.getD k 0) ((L ((Go.Proofs.Ytjheiaegpoppaaa.it L val s0 k).q.getD k 0)).take j) (Go.Proofs.Ytjheiaegpoppaaa.it L val s0 k)
  unfold Go.Proofs.Ytjheiaegpoppaaa.itp
  rw [hr]
  simp only [List.mem_append]
  exact .inl hm
end Go.Proofs.Ytjheiaegpoppaaa

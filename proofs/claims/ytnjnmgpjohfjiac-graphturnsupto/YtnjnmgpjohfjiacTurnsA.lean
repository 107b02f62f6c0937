/- GraphTurns: the mathematics. Turning all edges about; each edge goes out of one node and comes into one. -/
import Derived.Test.YtnjnmgpjohfjiacEdgeL
namespace Go.Proofs.Ytnjnmgpjohfjiac
open Go.RowKit

theorem turn_turn (e : Ed) : turn (turn e) = e := rfl
theorem map_turn_turn (es : List Ed) : (es.map turn).map turn = es := by
  rw [List.map_map]
  exact List.map_id'' (fun e => turn_turn e) es

theorem edAt_turn (es : List Ed) (k : Nat) : edAt (es.map turn) k = turn (edAt es k) := by
  unfold edAt
  simp only [List.getD, List.getElem?_map]
  cases es[k]? <;> rfl

theorem bad_turn (n : Int) (e : Ed) : badOf n (turn e) = badOf n e := by
  unfold badOf turn
  simp only
  have h : (e.t < 0 ∨ e.f < 0 ∨ n ≤ e.t ∨ n ≤ e.f) ↔ (e.f < 0 ∨ e.t < 0 ∨ n ≤ e.f ∨ n ≤ e.t) := by omega
  simp only [h]

theorem faultTo_turn (n : Int) (es : List Ed) (k : Nat) : faultTo n (es.map turn) k = faultTo n es k := by
  induction k with
  | zero => rfl
  | succ k ih =>
    unfold faultTo
    rw [ih, edAt_turn, bad_turn]

theorem fault_turn (n : Int) (es : List Ed) : faultOf n (es.map turn) = faultOf n es := by
  unfold faultOf
  rw [List.length_map, faultTo_turn]

theorem where_turn (v : Int) (es : List Ed) (k : Nat) : whereTo (fun e => e.t == v) (es.map turn) k = whereTo (fun e => e.f == v) es k := by
  induction k with
  | zero => rfl
  | succ k ih =>
    unfold whereTo
    rw [ih, edAt_turn]
    rfl

theorem at_turn (n v : Int) (es : List Ed) : atOf (fun e => e.t == v) n v (es.map turn) = atOf (fun e => e.f == v) n v es := by
  unfold atOf
  rw [List.length_map, where_turn]

/-- How many are wanted of the first n edges. -/
def wl (p : Ed → Bool) (es : List Ed) (n : Nat) : Nat := (whereTo p es n).length
theorem wl_succ (p : Ed → Bool) (es : List Ed) (n : Nat) : wl p es (n + 1) = wl p es n + if p (edAt es n) = true then 1 else 0 := by
  unfold wl
  have e : whereTo p es (n + 1) = if p (edAt es n) = true then whereTo p es n ++ [(n : Int)] else whereTo p es n := rfl
  rw [e]
  split
  · rw [List.length_append]; rfl
  · rfl

/-- Of the first n edges: how often one goes out of, or comes into, one of the first u nodes. -/
def totTo (es : List Ed) (n : Nat) : Nat → Nat
  | 0 => 0
  | u + 1 => totTo es n u + (wl (fun e => e.f == (u : Int)) es n + wl (fun e => e.t == (u : Int)) es n)

theorem tot_zero (es : List Ed) (u : Nat) : totTo es 0 u = 0 := by
  induction u with
  | zero => rfl
  | succ u ih => unfold totTo; rw [ih]; rfl

theorem tot_succ (es : List Ed) (n u : Nat) : totTo es (n + 1) u = totTo es n u + (if 0 ≤ (edAt es n).f ∧ (edAt es n).f < (u : Int) then 1 else 0) + (if 0 ≤ (edAt es n).t ∧ (edAt es n).t < (u : Int) then 1 else 0) := by
  induction u with
  | zero => rw [if_neg (by omega), if_neg (by omega)]; rfl
  | succ u ih =>
    have e1 : totTo es (n + 1) (u + 1) = totTo es (n + 1) u + (wl (fun e => e.f == (u : Int)) es (n + 1) + wl (fun e => e.t == (u : Int)) es (n + 1)) := rfl
    have e2 : totTo es n (u + 1) = totTo es n u + (wl (fun e => e.f == (u : Int)) es n + wl (fun e => e.t == (u : Int)) es n) := rfl
    rw [e1, e2, ih, wl_succ, wl_succ]
    simp only [beq_iff_eq]
    generalize edAt es n = e
    obtain ⟨f, t, c, k⟩ := e
    simp only
    split <;> split <;> split <;> split <;> split <;> split <;> omega

theorem tot_le (es : List Ed) (n u : Nat) : totTo es n u ≤ 2 * n := by
  induction n with
  | zero => rw [tot_zero]; omega
  | succ n ih => rw [tot_succ]; split <;> split <;> omega

theorem fault_back (nodes : Int) (es : List Ed) (n : Nat) (h : faultTo nodes es (n + 1) = (0, 0)) : faultTo nodes es n = (0, 0) ∧ badOf nodes (edAt es n) = 0 := by
  have e : faultTo nodes es (n + 1) = if (faultTo nodes es n).1 ≠ 0 then faultTo nodes es n else if badOf nodes (edAt es n) ≠ 0 then (badOf nodes (edAt es n), (n : Int)) else (0, 0) := rfl
  rw [e] at h
  split at h
  · rename_i c; exact absurd (by rw [h]) c
  · rename_i c
    have c' : (faultTo nodes es n).1 = 0 := by simpa using c
    refine ⟨fault_clean nodes es n c', ?_⟩
    split at h
    · rename_i d; simp only [Prod.mk.injEq] at h; exact absurd h.1 d
    · rename_i d; simpa using d

theorem tot_all (N : Nat) (es : List Ed) (n : Nat) (h : faultTo (N : Int) es n = (0, 0)) : totTo es n N = 2 * n := by
  induction n with
  | zero => rw [tot_zero]
  | succ n ih =>
    obtain ⟨h1, h2⟩ := fault_back _ es n h
    rw [tot_succ, ih h1]
    unfold badOf at h2
    split at h2
    · omega
    · rw [if_pos (by omega), if_pos (by omega)]; omega
end Go.Proofs.Ytnjnmgpjohfjiac

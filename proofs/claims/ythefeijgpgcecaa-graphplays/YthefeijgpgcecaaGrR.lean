/- What the edits make of a right graph; rows of calls. -/
import Derived.Test.YthefeijgpgcecaaGrI
namespace Go.Proofs.Ythefeijgpgcecaa
open Go.RowKit

/-- One call of a script. -/
structure GOp where
  k : Int
  a : Int
  e : Ed

def gopAt (os : List GOp) (i : Nat) : GOp := os.getD i ⟨0, 0, ⟨0, 0, 0, 0⟩⟩

/-- A row of calls: six cells each. -/
structure ORow (w : World) (ao : Option Addr) (n cap : Nat) (os : List GOp) : Prop where
  len : n = os.length
  room : n ≤ cap
  most : cap ≤ maxLen
  cell : 0 < n → ∃ b off, ao = some ⟨b, off, none⟩ ∧ ∀ i, i < n → w.cell? ⟨b, off + i * 6, none⟩ = some (.int .i64 (gopAt os i).k) ∧ w.cell? ⟨b, off + i * 6 + 1, none⟩ = some (.int .i64 (gopAt os i).a) ∧ w.cell? ⟨b, off + i * 6 + 2, none⟩ = some (.int .i64 (gopAt os i).e.f) ∧ w.cell? ⟨b, off + i * 6 + 3, none⟩ = some (.int .i64 (gopAt os i).e.t) ∧ w.cell? ⟨b, off + i * 6 + 4, none⟩ = some (.int .i64 (gopAt os i).e.c) ∧ w.cell? ⟨b, off + i * 6 + 5, none⟩ = some (.int .i64 (gopAt os i).e.k)

theorem ORow.kept {w w' : World} {ao : Option Addr} {n cap : Nat} {os : List GOp} (h : ORow w ao n cap os) (k : Kept w w') : ORow w' ao n cap os :=
  ⟨h.len, h.room, h.most, fun hn => by
    obtain ⟨b, off, e, hc⟩ := h.cell hn
    refine ⟨b, off, e, fun i hi => ?_⟩
    obtain ⟨h1, h2, h3, h4, h5, h6⟩ := hc i hi
    exact ⟨k.cell h1, k.cell h2, k.cell h3, k.cell h4, k.cell h5, k.cell h6⟩⟩

/-- A right graph. -/
structure Right (nodes : Int) (es : List Ed) : Prop where
  lo : 0 ≤ nodes
  hi : nodes ≤ 1024
  len : es.length ≤ 4096
  ok : ∀ e ∈ es, badOf nodes e = 0

theorem edAt_mem {es : List Ed} {i : Nat} (h : i < es.length) : edAt es i ∈ es := by
  have : edAt es i = es[i] := by simp [edAt, List.getD, h]
  rw [this]
  exact List.getElem_mem h

theorem mem_edAt {es : List Ed} {e : Ed} (h : e ∈ es) : ∃ i, i < es.length ∧ edAt es i = e := by
  obtain ⟨i, hi, rfl⟩ := List.getElem_of_mem h
  exact ⟨i, hi, by simp [edAt, List.getD, hi]⟩

theorem faultTo_ok (nodes : Int) (es : List Ed) (k : Nat) (h : ∀ i, i < k → badOf nodes (edAt es i) = 0) : faultTo nodes es k = (0, 0) := by
  induction k with
  | zero => rfl
  | succ k ih => exact fault_pass nodes es k (ih fun i hi => h i (by omega)) (h k (by omega))

theorem Right.fault {nodes : Int} {es : List Ed} (h : Right nodes es) : faultOf nodes es = (0, 0) := by
  have h1 := h.lo
  have h2 := h.hi
  have h3 := h.len
  unfold faultOf
  rw [if_neg (by omega)]
  exact faultTo_ok nodes es _ fun i hi => h.ok _ (edAt_mem hi)

theorem right_of {nodes : Int} {es : List Ed} {a : Int} (h : faultOf nodes es = (0, a)) : Right nodes es := by
  by_cases hs : nodes < 0 ∨ 1024 < nodes ∨ 4096 < es.length
  · unfold faultOf at h
    rw [if_pos hs] at h
    simp at h
  · have h' := h
    unfold faultOf at h'
    rw [if_neg hs] at h'
    have hc : faultTo nodes es es.length = (0, 0) := fault_clean nodes es _ (by rw [h'])
    refine ⟨by omega, by omega, by omega, fun e he => ?_⟩
    obtain ⟨i, hi, rfl⟩ := mem_edAt he
    have hk : ∀ k, k ≤ es.length → faultTo nodes es k = (0, 0) := fun k hk => by
      by_cases h0 : (faultTo nodes es k).1 = 0
      · exact fault_clean nodes es k h0
      · have := fault_stop nodes es k h0 (es.length - k)
        rw [show k + (es.length - k) = es.length by omega, hc] at this
        exact this.symm
    by_cases hb : badOf nodes (edAt es i) = 0
    · exact hb
    · have := fault_hit nodes es i (hk i (by omega)) hb hi
      rw [hc] at this
      simp only [Prod.mk.injEq] at this
      exact absurd this.1.symm hb

theorem Right.small {nodes : Int} {es : List Ed} (h : Right nodes es) : ∀ e ∈ es, 0 ≤ e.f ∧ e.f ≤ 1024 ∧ 0 ≤ e.t ∧ e.t ≤ 1024 := fun e he => by
  have h1 := h.hi
  have h2 := h.ok e he
  unfold badOf at h2
  split at h2
  · omega
  · omega

/-- What an edit makes of a graph, and its code. -/
def editOf (nodes : Int) (es : List Ed) (o : GOp) : Int × List Ed × Int :=
  if o.k = 0 then ((addNodeOf nodes).1, es, (addNodeOf nodes).2.2)
  else if o.k = 1 then (nodes, (addOf nodes es o.e).1, (addOf nodes es o.e).2.2)
  else if o.k = 2 then (nodes, (setOf nodes es o.a o.e).1, (setOf nodes es o.a o.e).2)
  else if o.k = 3 then (nodes, (cutOf es o.a).1, (cutOf es o.a).2)
  else if o.k = 4 then cutNodeOf nodes es o.a
  else (nodes, es, 0)

theorem Right.addNode {nodes : Int} {es : List Ed} (h : Right nodes es) : Right (addNodeOf nodes).1 es ∧ ((addNodeOf nodes).2.2 ≠ 0 → (addNodeOf nodes).1 = nodes) := by
  unfold addNodeOf
  by_cases hc : 1024 ≤ nodes
  · rw [if_pos hc]; exact ⟨h, fun _ => rfl⟩
  · rw [if_neg hc]
    have h0 := h.lo
    refine ⟨⟨by simp only; omega, by simp only; omega, h.len, fun e he => ?_⟩, fun t => absurd rfl t⟩
    have := h.ok e he
    unfold badOf at this ⊢
    simp only at this ⊢
    split at this
    · omega
    · rename_i c1
      rw [if_neg (by omega)]
      exact this

theorem Right.add {nodes : Int} {es : List Ed} (h : Right nodes es) (e : Ed) : Right nodes (addOf nodes es e).1 ∧ ((addOf nodes es e).2.2 ≠ 0 → (addOf nodes es e).1 = es) := by
  unfold addOf
  by_cases hc : 4096 ≤ es.length
  · rw [if_pos hc]; exact ⟨h, fun _ => rfl⟩
  · rw [if_neg hc]
    by_cases hb : badOf nodes e ≠ 0
    · rw [if_pos hb]; exact ⟨h, fun _ => rfl⟩
    · rw [if_neg hb]
      refine ⟨⟨h.lo, h.hi, by simp; omega, fun x hx => ?_⟩, fun t => absurd rfl t⟩
      simp only [List.mem_append, List.mem_singleton] at hx
      rcases hx with hx | rfl
      · exact h.ok x hx
      · simpa using hb

theorem Right.set {nodes : Int} {es : List Ed} (h : Right nodes es) (i : Int) (e : Ed) : Right nodes (setOf nodes es i e).1 ∧ ((setOf nodes es i e).2 ≠ 0 → (setOf nodes es i e).1 = es) := by
  unfold setOf
  by_cases hc : ¬ (0 ≤ i ∧ i < (es.length : Int))
  · rw [if_pos hc]; exact ⟨h, fun _ => rfl⟩
  · rw [if_neg hc]
    by_cases hb : badOf nodes e ≠ 0
    · rw [if_pos hb]; exact ⟨h, fun _ => rfl⟩
    · rw [if_neg hb]
      refine ⟨⟨h.lo, h.hi, by simpa using h.len, fun x hx => ?_⟩, fun t => absurd rfl t⟩
      rcases List.mem_or_eq_of_mem_set hx with hx | rfl
      · exact h.ok x hx
      · simpa using hb

theorem Right.cut {nodes : Int} {es : List Ed} (h : Right nodes es) (i : Int) : Right nodes (cutOf es i).1 ∧ ((cutOf es i).2 ≠ 0 → (cutOf es i).1 = es) := by
  unfold cutOf
  by_cases hc : ¬ (0 ≤ i ∧ i < (es.length : Int))
  · rw [if_pos hc]; exact ⟨h, fun _ => rfl⟩
  · rw [if_neg hc]
    have h3 := h.len
    refine ⟨⟨h.lo, h.hi, by simp only [List.length_eraseIdx]; split <;> omega, fun x hx => ?_⟩, fun t => absurd rfl t⟩
    exact h.ok x (List.mem_of_mem_eraseIdx hx)

theorem Right.cutNode {nodes : Int} {es : List Ed} (h : Right nodes es) (v : Int) : Right (cutNodeOf nodes es v).1 (cutNodeOf nodes es v).2.1 ∧ ((cutNodeOf nodes es v).2.2 ≠ 0 → (cutNodeOf nodes es v).1 = nodes ∧ (cutNodeOf nodes es v).2.1 = es) := by
  unfold cutNodeOf
  by_cases hc : ¬ (0 ≤ v ∧ v < nodes)
  · rw [if_pos hc]; exact ⟨h, fun _ => ⟨rfl, rfl⟩⟩
  · rw [if_neg hc]
    have h0 := h.lo
    have h1 := h.hi
    have h3 := h.len
    refine ⟨⟨by simp only; omega, by simp only; omega, ?_, fun x hx => ?_⟩, fun t => absurd rfl t⟩
    · simp only [List.length_map]
      exact Nat.le_trans (List.length_filter_le _ _) h3
    · simp only [List.mem_map] at hx
      obtain ⟨y, hy, rfl⟩ := hx
      unfold stay at hy
      rw [List.mem_filter] at hy
      have hb := h.ok y hy.1
      have hn := hy.2
      simp only [atNode, Bool.not_or, Bool.and_eq_true, Bool.not_eq_true', beq_eq_false_iff_ne, ne_eq] at hn
      unfold badOf mvEd moveOf at *
      simp only at *
      split at hb
      · omega
      · rename_i c1
        split at hb
        · omega
        · rename_i c2
          rw [if_neg, if_neg]
          · omega
          · split <;> split <;> omega

theorem Right.edit {nodes : Int} {es : List Ed} (h : Right nodes es) (o : GOp) {n' : Int} {es' : List Ed} {c : Int} (he : editOf nodes es o = (n', es', c)) : Right n' es' ∧ (c ≠ 0 → n' = nodes ∧ es' = es) := by
  unfold editOf at he
  split at he
  · simp only [Prod.mk.injEq] at he
    obtain ⟨rfl, rfl, rfl⟩ := he
    exact ⟨h.addNode.1, fun t => ⟨h.addNode.2 t, rfl⟩⟩
  · split at he
    · simp only [Prod.mk.injEq] at he
      obtain ⟨rfl, rfl, rfl⟩ := he
      exact ⟨(h.add o.e).1, fun t => ⟨rfl, (h.add o.e).2 t⟩⟩
    · split at he
      · simp only [Prod.mk.injEq] at he
        obtain ⟨rfl, rfl, rfl⟩ := he
        exact ⟨(h.set o.a o.e).1, fun t => ⟨rfl, (h.set o.a o.e).2 t⟩⟩
      · split at he
        · simp only [Prod.mk.injEq] at he
          obtain ⟨rfl, rfl, rfl⟩ := he
          exact ⟨(h.cut o.a).1, fun t => ⟨rfl, (h.cut o.a).2 t⟩⟩
        · split at he
          · have := h.cutNode o.a
            rw [he] at this
            exact this
          · simp only [Prod.mk.injEq] at he
            obtain ⟨rfl, rfl, rfl⟩ := he
            exact ⟨h, fun _ => ⟨rfl, rfl⟩⟩
end Go.Proofs.Ythefeijgpgcecaa

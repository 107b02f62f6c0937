/- Reverse, in the program. -/
import Derived.Test.YthefeijgpgcecaaEdgeE
namespace Go.Proofs.Ythefeijgpgcecaa
open Go.RowKit

/-- An edge turned about. -/
def turn (e : Ed) : Ed := ⟨e.t, e.f, e.c, e.k⟩
/-- The first k edges turned about. -/
def revTo (es : List Ed) (k : Nat) : List Ed := (es.take k).map turn ++ es.drop k

theorem revTo_zero (es : List Ed) : revTo es 0 = es := by simp [revTo]
theorem revTo_all (es : List Ed) : revTo es es.length = es.map turn := by simp [revTo]
theorem revTo_len (es : List Ed) (k : Nat) : (revTo es k).length = es.length := by simp [revTo]; omega

theorem evals_set (es : List Ed) : ∀ (k : Nat), k < es.length → ∀ e : Ed, e.c = (edAt es k).c → e.k = (edAt es k).k → ((evals es).set (k * 4) (.int .i64 e.f)).set (k * 4 + 1) (.int .i64 e.t) = evals (es.set k e) := by
  induction es with
  | nil => intro k hk; simp at hk
  | cons a es ih =>
    intro k hk e h1 h2
    match k with
    | 0 =>
      obtain ⟨f, t, c, k⟩ := e
      simp only [edAt, List.getD_cons_zero] at h1 h2
      subst h1 h2
      simp [evals, ecells]
    | k + 1 =>
      have h := ih k (by simpa using hk) e h1 h2
      have l4 : (ecells a).length = 4 := rfl
      show ((ecells a ++ evals es).set ((k + 1) * 4) _).set ((k + 1) * 4 + 1) _ = ecells a ++ evals (es.set k e)
      rw [← h, List.set_append_right _ _ (by rw [l4]; omega), List.set_append_right _ _ (by rw [l4]; omega), l4, show (k + 1) * 4 - 4 = k * 4 by omega, show (k + 1) * 4 + 1 - 4 = k * 4 + 1 by omega]

theorem revTo_succ (es : List Ed) (k : Nat) (hk : k < es.length) : revTo es (k + 1) = (revTo es k).set k (turn (edAt es k)) := by
  unfold revTo
  have l : ((es.take k).map turn).length = k := by simp; omega
  have e1 : edAt es k = es[k] := by simp [edAt, List.getD, hk]
  rw [List.set_append_right _ _ (by omega), l, Nat.sub_self, List.drop_eq_getElem_cons hk, List.set_cons_zero, List.take_succ_eq_append_getElem hk, List.map_append, List.append_assoc, e1]
  rfl

theorem revTo_at (es : List Ed) (k : Nat) (hk : k < es.length) : edAt (revTo es k) k = edAt es k := by
  unfold edAt revTo
  have l : ((es.take k).map turn).length = k := by simp; omega
  simp only [List.getD]
  rw [List.getElem?_append_right (by omega), l, Nat.sub_self, List.getElem?_drop]
  simp

/-- The state behind k edges. -/
structure RLoop (W : World) (B : Nat) (ao : Option Addr) (n cap : Nat) (es : List Ed) (k : Nat) (wr : World) : Prop where
  own : wr.ownsRow B 36 4 (.slice ao n cap) n (evals (revTo es k))
  kept : Kept W wr

theorem RLoop.step {W : World} {B g n cap : Nat} {es : List Ed} {k : Nat} {wr : World} {o : Obj} (h : RLoop W B (some ⟨g, 0, none⟩) n cap es k wr) (hk : k < es.length) (hB : W.heap.size ≤ B) (m : Nat) :
    RLoop W B (some ⟨g, 0, none⟩) n cap es (k + 1) (((((wr.alloc o).drewN m).setCell ⟨g, k * 4, none⟩ (.int .i64 (edAt es k).t))).setCell ⟨g, k * 4 + 1, none⟩ (.int .i64 (edAt es k).f)) := by
  have o0 : ((wr.alloc o).drewN m).ownsRow B 36 4 (.slice (some ⟨g, 0, none⟩) n cap) n (evals (revTo es k)) := h.own.alloc o
  obtain ⟨o1, g1⟩ := o0.stored (k * 4) (.int .i64 (edAt es k).t)
  obtain ⟨o2, g2⟩ := o1.stored (k * 4 + 1) (.int .i64 (edAt es k).f)
  have hg : B ≤ g := (h.own.lt g rfl).1
  have e := evals_set (revTo es k) k (by rw [revTo_len]; exact hk) (turn (edAt es k)) (by rw [revTo_at es k hk]; rfl) (by rw [revTo_at es k hk]; rfl)
  rw [← revTo_succ es k hk] at e
  refine ⟨?_, ?_⟩
  · rw [← e]; exact o2
  · exact (((h.kept.alloc o).drewN m).setCell (by simp only; omega) _).setCell (by simp only; omega) _

end Go.Proofs.Ythefeijgpgcecaa

/- Rows written in the middle; slices.Delete of one edge. -/
import Derived.Test.YthefeijgpgcecaaGrB
import Derived.Laws.IdiomCopy
import Derived.Deep.RegionLaw
import Derived.WalkSmall
namespace Go.Proofs.Ythefeijgpgcecaa
open Go.RowKit

/-- A list written from a place on. -/
def setL (xs : List Value) (o : Nat) : List Value → List Value
  | [] => xs
  | v :: vs => setL (xs.set o v) (o + 1) vs

theorem setL_len (vs : List Value) : ∀ (xs : List Value) (o : Nat), (setL xs o vs).length = xs.length := by
  induction vs with
  | nil => intro xs o; rfl
  | cons v vs ih => intro xs o; unfold setL; rw [ih, List.length_set]

theorem setL_get (vs : List Value) : ∀ (xs : List Value) (o j : Nat), o + vs.length ≤ xs.length → (setL xs o vs)[j]? = if o ≤ j ∧ j < o + vs.length then vs[j - o]? else xs[j]? := by
  induction vs with
  | nil =>
    intro xs o j _
    rw [if_neg (by simp only [List.length_nil]; omega)]
    rfl
  | cons v vs ih =>
    intro xs o j h
    simp only [List.length_cons] at h
    unfold setL
    rw [ih (xs.set o v) (o + 1) j (by rw [List.length_set]; omega)]
    simp only [List.length_cons]
    by_cases c : o = j
    · subst c
      rw [if_neg (by omega), if_pos (by omega), Nat.sub_self, List.getElem?_set_self (by omega)]
      rfl
    · by_cases d : o ≤ j ∧ j < o + (vs.length + 1)
      · rw [if_pos (by omega), if_pos d, show j - o = (j - (o + 1)) + 1 by omega, List.getElem?_cons_succ]
      · rw [if_neg (by omega), if_neg d, List.getElem?_set_ne c]

theorem owns_setCells {base e size n g cap : Nat} (vs : List Value) : ∀ {w : World} {xs : List Value} (o : Nat), w.ownsRow base e size (.slice (some ⟨g, 0, none⟩) n cap) n xs →
    (w.setCells g o vs).ownsRow base e size (.slice (some ⟨g, 0, none⟩) n cap) n (setL xs o vs) ∧ Ch (fun k => k = g) w (w.setCells g o vs) := by
  induction vs with
  | nil => intro w xs o h; exact ⟨h, Ch.refl _ _⟩
  | cons v vs ih =>
    intro w xs o h
    obtain ⟨h1, -⟩ := h.stored o v
    obtain ⟨h2, h3⟩ := ih (o + 1) h1
    exact ⟨h2, (((Ch.refl (fun k => k = g) w).setCell (F := fun k => k = g) (p := ⟨g, o, none⟩) rfl v)).trans h3⟩

theorem evals_take (es : List Ed) : ∀ i, evals (es.take i) = (evals es).take (i * 4) := by
  induction es with
  | nil => intro i; simp [evals]
  | cons a es ih =>
    intro i
    match i with
    | 0 => simp [evals]
    | i + 1 =>
      have l4 : (ecells a).length = 4 := rfl
      show ecells a ++ evals (es.take i) = (ecells a ++ evals es).take ((i + 1) * 4)
      rw [ih i, List.take_append, List.take_of_length_le (l := ecells a) (by rw [l4]; omega), l4, show (i + 1) * 4 - 4 = i * 4 by omega]
theorem evals_drop (es : List Ed) : ∀ i, evals (es.drop i) = (evals es).drop (i * 4) := by
  induction es with
  | nil => intro i; simp [evals]
  | cons a es ih =>
    intro i
    match i with
    | 0 => simp
    | i + 1 =>
      have l4 : (ecells a).length = 4 := rfl
      show evals (es.drop i) = (ecells a ++ evals es).drop ((i + 1) * 4)
      rw [ih i, List.drop_append, List.drop_of_length_le (l := ecells a) (by rw [l4]; omega), l4, show (i + 1) * 4 - 4 = i * 4 by omega, List.nil_append]

/-- Moved down by one, and what is left behind cut off. -/
theorem evals_erase (es : List Ed) (i : Nat) (hi : i < es.length) (zs : List Value) (hz : zs.length = 4) :
    (setL (setL (evals es) (i * 4) (evals (es.drop (i + 1)))) ((es.length - 1) * 4) zs).take ((es.length - 1) * 4) = evals (es.eraseIdx i) := by
  have l1 := evals_len es
  have l2 : (evals (es.drop (i + 1))).length = (es.length - (i + 1)) * 4 := by rw [evals_len, List.length_drop]
  have l3 : (setL (evals es) (i * 4) (evals (es.drop (i + 1)))).length = es.length * 4 := by rw [setL_len, l1]
  rw [List.eraseIdx_eq_take_drop_succ, evals_app, evals_take]
  apply List.ext_getElem?
  intro j
  rw [List.getElem?_take]
  by_cases hj : j < (es.length - 1) * 4
  · rw [if_pos hj, setL_get _ _ _ _ (by rw [l3, hz]; omega), if_neg (by omega), setL_get _ _ _ _ (by rw [l1, l2]; omega), l2]
    by_cases c : i * 4 ≤ j
    · rw [if_pos (by omega), List.getElem?_append_right (by rw [List.length_take, l1]; omega), List.length_take, l1, Nat.min_eq_left (by omega)]
    · rw [if_neg (by omega), List.getElem?_append_left (by rw [List.length_take, l1]; omega), List.getElem?_take, if_pos (by omega)]
  · rw [if_neg hj, List.getElem?_eq_none (by rw [List.length_append, List.length_take, l1, l2]; omega)]
end Go.Proofs.Ythefeijgpgcecaa

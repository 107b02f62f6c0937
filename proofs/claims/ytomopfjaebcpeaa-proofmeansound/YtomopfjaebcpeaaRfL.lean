/- The document's circle is the program's. -/
import Derived.Test.YtomopfjaebcpeaaRfK
namespace Go.Proofs.Ytomopfjaebcpeaa
open Go.RowKit

/-- The place behind. -/
def nxtL (L k : Nat) : Nat := (k + 1) % L
theorem nxtL_eq {L k : Nat} (h : k < L) : nxtL L k = if k + 1 = L then 0 else k + 1 := by
  unfold nxtL
  by_cases e : k + 1 = L
  · rw [if_pos e, e, Nat.mod_self]
  · rw [if_neg e, Nat.mod_eq_of_lt (by omega)]

/-- A circle as the document has it. -/
structure CircDoc (es : List Ed) (n : Nat) (c : List Int) (L : Nat) : Prop where
  pos : 0 < L
  short : L ≤ n
  rng : ∀ j, j < L → 0 ≤ zAt c j ∧ zAt c j < (n : Int)
  link : ∀ k, k < L → tto es c k = frm es c (nxtL L k)
  sole : ∀ k, k < L → ∀ j, j < k → tto es c j ≠ tto es c k

theorem circ_iff (es : List Ed) (n : Nat) (c : List Int) (L : Nat) : CircOk es n c L ↔ CircDoc es n c L := by
  constructor
  · intro h
    have link : ∀ k, k < L → tto es c k = frm es c (nxtL L k) := fun k hk => by
      rw [nxtL_eq hk]
      split
      · rename_i e
        rw [h.link 0 h.pos]
        unfold prv
        rw [if_pos rfl]
        congr 1; omega
      · rename_i e
        rw [h.link (k + 1) (by omega)]
        unfold prv
        rw [if_neg (by omega)]
        congr 1
    have ne : ∀ a, a < L → ∀ b, b < L → a ≠ b → frm es c a ≠ frm es c b := fun a ha b hb hab => by
      by_cases t : a < b
      · exact h.sole b hb a t
      · exact fun e => h.sole a ha b (by omega) e.symm
    refine ⟨h.pos, ?_, h.rng, link, fun k hk j hj => ?_⟩
    · refine pigeon n L (fun j => (zAt c j).toNat) (fun j hj => ?_) (fun k hk j hj => ?_)
      · have := h.rng j hj
        show (zAt c j).toNat < n
        omega
      · show (zAt c j).toNat ≠ (zAt c k).toNat
        intro e
        refine h.sole k hk j hj ?_
        unfold frm
        rw [e]
    · rw [link j (by omega), link k hk, nxtL_eq (by omega : j < L), nxtL_eq hk, if_neg (by omega : ¬ j + 1 = L)]
      split
      · exact ne _ (by omega) _ h.pos (by omega)
      · exact ne _ (by omega) _ (by omega) (by omega)
  · intro h
    have ne : ∀ a, a < L → ∀ b, b < L → a ≠ b → tto es c a ≠ tto es c b := fun a ha b hb hab => by
      by_cases t : a < b
      · exact h.sole b hb a t
      · exact fun e => h.sole a ha b (by omega) e.symm
    have hp := h.pos
    have link : ∀ k, k < L → frm es c k = tto es c (prv L k) := fun k hk => by
      unfold prv
      split
      · rename_i e
        rw [h.link (L - 1) (by omega), nxtL_eq (by omega), if_pos (by omega), e]
      · rename_i e
        rw [h.link (k - 1) (by omega), nxtL_eq (by omega), if_neg (by omega)]
        congr 1; omega
    refine ⟨h.pos, h.rng, link, fun k hk j hj => ?_⟩
    rw [link j (by omega), link k hk]
    unfold prv
    rw [if_neg (by omega : ¬ k = 0)]
    split
    · exact ne _ (by omega) _ (by omega) (by omega)
    · exact ne _ (by omega) _ (by omega) (by omega)
end Go.Proofs.Ytomopfjaebcpeaa

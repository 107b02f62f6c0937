/- ScaleOne: what Admit answers at whole numbers, and at the same moved by a power of two. -/
import Derived.Test.YtnjnmgpjohfjiabDoorOneC
namespace Go.Proofs.YtnjnmgpjohfjiabDoor
open Go.RowKit

theorem oword_nought (u : Int) : oword 0 u = 0 := by unfold oword; rw [if_pos rfl]
theorem digs_nought : digs 0 = 0 := by unfold digs; rw [if_neg (by omega)]
theorem podd_nought : podd 0 = 0 := by unfold podd; rw [if_pos digs_nought]
theorem fcls_nought : fcls 0 = 0 := by unfold fcls; rw [if_neg (by unfold Fl.nan; omega), if_neg (by omega)]

/-- A whole number's word and the moved one's. -/
theorem o_same (z up : Int) (z1 : -2147483648 ≤ z) (z2 : z ≤ 2147483647) (u1 : -900 ≤ up) (u2 : up ≤ 900) :
    podd (oword z up) = podd (oword z 0) ∧ (podd (oword z 0) ≠ 0 → pexp (oword z up) = pexp (oword z 0) + up ∧ 0 ≤ pexp (oword z 0) ∧ podd (oword z 0) * 2 ^ (pexp (oword z 0)).toNat ≤ 2147483648) ∧ fcls (oword z up) = 0 ∧ fneg (oword z up) = fneg (oword z 0) ∧ oword z up < 18446744073709551616 := by
  by_cases hz : z = 0
  · subst hz
    rw [oword_nought, oword_nought]
    exact ⟨rfl, fun h => absurd podd_nought h, fcls_nought, rfl, by omega⟩
  · obtain ⟨o, p, ho, hp, h⟩ := oword_parts z hz z1 z2
    obtain ⟨a1, a2, a3, a4, a5⟩ := h up u1 u2
    obtain ⟨b1, b2, _, b4, _⟩ := h 0 (by omega) (by omega)
    refine ⟨by rw [a1, b1], fun _ => ⟨by rw [a2, b2]; omega, by rw [b2]; omega, ?_⟩, a3, by rw [a4, b4], a5⟩
    rw [b1, b2, show ((p : Int) + 0).toNat = p by omega, hp]
    omega

def oL (zs : List Int) (u : Int) : List Nat := zs.map fun z => oword z u
theorem oL_len (zs : List Int) (u : Int) : (oL zs u).length = zs.length := by unfold oL; simp
theorem oL_get (zs : List Int) (u : Int) (j : Nat) (h : j < zs.length) : (oL zs u).getD j 0 = oword (zs.getD j 0) u := by
  unfold oL
  simp [List.getD, h]

def Fits (zs : List Int) : Prop := ∀ j, j < zs.length → -2147483648 ≤ zs.getD j 0 ∧ zs.getD j 0 ≤ 2147483647

theorem com_moved (zs : List Int) (hz : Fits zs) (up : Int) (u1 : -900 ≤ up) (u2 : up ≤ 900) (k : Nat) (hk : k ≤ zs.length) :
    (comTo (oL zs up) k).1 = (comTo (oL zs 0) k).1 ∧ (comTo (oL zs up) k).2 = (comTo (oL zs 0) k).2 + (if (comTo (oL zs 0) k).1 then up else 0) := by
  induction k with
  | zero => unfold comTo; exact ⟨rfl, by simp⟩
  | succ k ih =>
    obtain ⟨i1, i2⟩ := ih (by omega)
    obtain ⟨b1, b2⟩ := hz k (by omega)
    have s1 := (o_same (zs.getD k 0) up b1 b2 u1 u2).1
    have s2 : podd (oword (zs.getD k 0) 0) ≠ 0 → pexp (oword (zs.getD k 0) up) = pexp (oword (zs.getD k 0) 0) + up := fun h => ((o_same (zs.getD k 0) up b1 b2 u1 u2).2.1 h).1
    clear b1 b2
    unfold comTo
    rw [oL_get zs up k (by omega), oL_get zs 0 k (by omega), s1, i1]
    generalize oword (zs.getD k 0) up = X at s1 s2
    generalize oword (zs.getD k 0) 0 = Y at s1 s2
    generalize comTo (oL zs up) k = C at i1 i2
    generalize comTo (oL zs 0) k = D at i1 i2
    obtain ⟨D1, D2⟩ := D
    simp only at i1 i2 ⊢
    by_cases c : podd Y ≠ 0
    · have t1 := s2 c
      clear s2
      cases D1
      · rw [if_pos ⟨c, .inl rfl⟩, if_pos ⟨c, .inl rfl⟩]
        exact ⟨rfl, by rw [if_pos rfl]; exact t1⟩
      · rw [if_pos rfl] at i2
        by_cases d : pexp Y < D2
        · rw [if_pos ⟨c, .inr (by omega)⟩, if_pos ⟨c, .inr d⟩]
          exact ⟨rfl, by rw [if_pos rfl]; exact t1⟩
        · rw [if_neg (fun q => by rcases q.2 with r | r; cases r; omega), if_neg (fun q => by rcases q.2 with r | r; cases r; omega)]
          exact ⟨i1, by rw [if_pos rfl]; exact i2⟩
    · rw [if_neg (fun q => c q.1), if_neg (fun q => c q.1)]
      exact ⟨i1, i2⟩
end Go.Proofs.YtnjnmgpjohfjiabDoor

/- ScaleOne: Admit answers the same whole numbers at whole numbers and at the same moved by a power of two. -/
import Derived.Test.YtnjnmgpjohfjiabDoorOneD
namespace Go.Proofs.YtnjnmgpjohfjiabDoor
open Go.RowKit

theorem one_unfit (zs : List Int) (hz : Fits zs) (u : Int) (u1 : -900 ≤ u) (u2 : u ≤ 900) : unfitOf (oL zs u) = (0, 0) := by
  unfold unfitOf
  rw [firstOf_none]
  intro i hi
  rw [oL_len] at hi
  unfold wrongAt
  rw [oL_get zs u i hi]
  obtain ⟨b1, b2⟩ := hz i hi
  exact decide_eq_false (by rw [(o_same (zs.getD i 0) u b1 b2 u1 u2).2.2.1]; simp)

theorem one_mag (zs : List Int) (hz : Fits zs) (up : Int) (u1 : -900 ≤ up) (u2 : up ≤ 900) (j : Nat) (hj : j < zs.length) :
    wmag (oword (zs.getD j 0) up) (comTo (oL zs up) zs.length).2 = wmag (oword (zs.getD j 0) 0) (comTo (oL zs 0) zs.length).2 := by
  obtain ⟨b1, b2⟩ := hz j hj
  obtain ⟨s1, s2, -, -, -⟩ := o_same (zs.getD j 0) up b1 b2 u1 u2
  unfold wmag
  rw [s1]
  by_cases c : podd (oword (zs.getD j 0) 0) = 0
  · rw [c, Nat.zero_mul, Nat.zero_mul]
  · obtain ⟨t1, -, -⟩ := s2 c
    have hl := comTo_least (oL zs 0) zs.length j hj (by rw [oL_get zs 0 j hj]; exact c)
    have hm := (com_moved zs hz up u1 u2 zs.length (Nat.le_refl _)).2
    rw [if_pos hl.1] at hm
    rw [t1, hm]
    congr 2
    omega

theorem one_small (zs : List Int) (hz : Fits zs) (j : Nat) (hj : j < zs.length) :
    wmag (oword (zs.getD j 0) 0) (comTo (oL zs 0) zs.length).2 ≤ 2147483648 := by
  obtain ⟨b1, b2⟩ := hz j hj
  obtain ⟨-, s2, -, -, -⟩ := o_same (zs.getD j 0) 0 b1 b2 (by omega) (by omega)
  have hE : 0 ≤ (comTo (oL zs 0) zs.length).2 := by
    rcases comTo_kind (oL zs 0) zs.length with ⟨_, h, _⟩ | ⟨i, hi, hne, he⟩
    · omega
    · rw [oL_get zs 0 i hi] at hne he
      obtain ⟨c1, c2⟩ := hz i hi
      have := ((o_same (zs.getD i 0) 0 c1 c2 (by omega) (by omega)).2.1 hne).2.1
      omega
  unfold wmag
  by_cases c : podd (oword (zs.getD j 0) 0) = 0
  · rw [c, Nat.zero_mul]; omega
  · obtain ⟨-, t2, t3⟩ := s2 c
    generalize (comTo (oL zs 0) zs.length).2 = E at hE
    generalize pexp (oword (zs.getD j 0) 0) = P at t2 t3
    generalize podd (oword (zs.getD j 0) 0) = O at t3
    exact Nat.le_trans (Nat.mul_le_mul_left _ (Nat.pow_le_pow_right (by omega) (by omega))) t3

theorem one_num (zs : List Int) (hz : Fits zs) (up : Int) (u1 : -900 ≤ up) (u2 : up ≤ 900) (j : Nat) (hj : j < zs.length) :
    wnum (oword (zs.getD j 0) up) (comTo (oL zs up) zs.length).2 = wnum (oword (zs.getD j 0) 0) (comTo (oL zs 0) zs.length).2 := by
  obtain ⟨b1, b2⟩ := hz j hj
  unfold wnum
  rw [one_mag zs hz up u1 u2 j hj, (o_same (zs.getD j 0) up b1 b2 u1 u2).2.2.2.1]

theorem one_admit (zs : List Int) (hz : Fits zs) (up : Int) (u1 : -900 ≤ up) (u2 : up ≤ 900) :
    admitOf (oL zs up) 1099511627776 = ((oL zs 0).map (fun x => wnum x (comTo (oL zs 0) zs.length).2), (comTo (oL zs up) zs.length).2, 0, 0) := by
  rw [admit_fits (oL zs up) 1099511627776 (by omega) (by omega) (by rw [one_unfit zs hz up u1 u2]), oL_len]
  · congr 1
    refine List.ext_getElem (by simp [oL_len]) fun i hi hi2 => ?_
    have hj : i < zs.length := by simpa [oL_len] using hi
    have h := one_num zs hz up u1 u2 i hj
    rw [← oL_get zs up i hj, ← oL_get zs 0 i hj] at h
    have g1 : i < (oL zs up).length := by rw [oL_len]; exact hj
    have g2 : i < (oL zs 0).length := by rw [oL_len]; exact hj
    rw [List.getElem_map, List.getElem_map]
    simp only [List.getD, List.getElem?_eq_getElem g1, List.getElem?_eq_getElem g2, Option.getD_some] at h
    exact h
  · rw [oL_len]
    refine firstOf_none fun i hi => ?_
    unfold wideAt
    rw [oL_get zs up i hi, one_mag zs hz up u1 u2 i hi]
    have := one_small zs hz i hi
    exact decide_eq_false (by omega)

/-- Both answers of Admit: the same numbers, and where one of them is not nought the exponent has moved by up. -/
theorem one_both (zs : List Int) (hz : Fits zs) (up : Int) (u1 : -900 ≤ up) (u2 : up ≤ 900) : ∃ ns e g,
    admitOf (oL zs 0) 1099511627776 = (ns, e, 0, 0) ∧ admitOf (oL zs up) 1099511627776 = (ns, g, 0, 0) ∧ ns.length = zs.length ∧ -1074 ≤ e ∧ e ≤ 1024 ∧ (∀ j, j < zs.length → ns.getD j 0 ≠ 0 → g = e + up) := by
  refine ⟨_, _, _, one_admit zs hz 0 (by omega) (by omega), one_admit zs hz up u1 u2, by simp [oL], (comTo_bd _ _).1, (comTo_bd _ _).2, fun j hj hne => ?_⟩
  have hm := (com_moved zs hz up u1 u2 zs.length (Nat.le_refl _)).2
  have hl := comTo_least (oL zs 0) zs.length j hj
  rw [oL_get zs 0 j hj] at hl
  have hn : podd (oword (zs.getD j 0) 0) ≠ 0 := fun c => by
    refine hne ?_
    have eg : ((oL zs 0).map (fun x => wnum x (comTo (oL zs 0) zs.length).2)).getD j 0 = wnum (oword (zs.getD j 0) 0) (comTo (oL zs 0) zs.length).2 := by
      rw [← oL_get zs 0 j hj]
      have : j < (oL zs 0).length := by rw [oL_len]; exact hj
      simp [List.getD, this]
    rw [eg]
    unfold wnum wmag
    rw [c, Nat.zero_mul]
    simp
  rw [if_pos (hl hn).1] at hm
  exact hm

theorem oL_lt (zs : List Int) (hz : Fits zs) (u : Int) (u1 : -900 ≤ u) (u2 : u ≤ 900) : ∀ i, (oL zs u).getD i 0 < 18446744073709551616 := by
  intro i
  by_cases hi : i < zs.length
  · rw [oL_get zs u i hi]
    obtain ⟨b1, b2⟩ := hz i hi
    exact (o_same (zs.getD i 0) u b1 b2 u1 u2).2.2.2.2
  · simp only [List.getD]
    rw [List.getElem?_eq_none (by rw [oL_len]; omega)]
    decide
end Go.Proofs.YtnjnmgpjohfjiabDoor

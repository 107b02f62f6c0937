/- What awake asks: the answers. -/
import Derived.Test.YtpdppjngbbkbbaaDoorVpD
namespace Go.Proofs.YtpdppjngbbkbbaaDoor
open Go.RowKit

def ea2 : List Ed := [⟨0, 1, 0, 2⟩]
def eg2 : List Ed := [⟨2, 3, 0, 0⟩, ⟨0, 2, 0, 0⟩, ⟨3, 1, 0, 0⟩]
theorem ea2_fault : faultOf 2 ea2 = (0, 0) := by decide
theorem two_cases {i : Nat} (h : i < 2) : i = 0 ∨ i = 1 := by omega

/-- Where all hang together and are even in number, no part is odd. -/
theorem oddTo_whole {es : List Ed} {S : Nat → Bool} {N : Nat} (h : ∀ u v, u < N → v < N → Hang es S u v) (hN : N % 2 = 0) : oddTo es S N N = 0 := by
  unfold oddTo
  rw [sm_congr (g := fun _ => 0), sm_zero]
  intro r hr
  unfold oddAt
  split
  · have e : cntTo (Hang es S r) N = (N : Int) := by
      unfold cntTo
      rw [sm_congr (g := fun _ => 1) (fun v hv => ind_pos (h r v hr hv))]
      have aux : ∀ k : Nat, sm (fun _ => (1 : Int)) k = (k : Int) := by
        intro k
        induction k with
        | zero => rfl
        | succ k ih => rw [sm_succ, ih]; omega
      exact aux N
    rw [e]; omega
  · rfl

theorem hang2 : ∀ u v, u < 2 → v < 2 → Hang ea2 (inTo [] 0) u v := by
  have a : Hang ea2 (inTo [] 0) 0 1 := (Way.refl 0).step (by decide)
  have b : Hang ea2 (inTo [] 0) 1 0 := (Way.refl 1).step (by decide)
  intro u v hu hv
  rcases two_cases hu with rfl | rfl <;> rcases two_cases hv with rfl | rfl
  · exact Way.refl _
  · exact a
  · exact b
  · exact Way.refl _
theorem hang4 : ∀ u v, u < 4 → v < 4 → Hang eg2 (inTo [] 0) u v := by
  have a : Hang eg2 (inTo [] 0) 0 2 := (Way.refl 0).step (by decide)
  have b : Hang eg2 (inTo [] 0) 2 3 := (Way.refl 2).step (by decide)
  have c : Hang eg2 (inTo [] 0) 3 1 := (Way.refl 3).step (by decide)
  have a' : Hang eg2 (inTo [] 0) 2 0 := (Way.refl 2).step (by decide)
  have b' : Hang eg2 (inTo [] 0) 3 2 := (Way.refl 3).step (by decide)
  have c' : Hang eg2 (inTo [] 0) 1 3 := (Way.refl 1).step (by decide)
  have to0 : ∀ u, u < 4 → Hang eg2 (inTo [] 0) u 0 := by
    intro u hu
    have : u = 0 ∨ u = 1 ∨ u = 2 ∨ u = 3 := by omega
    rcases this with rfl | rfl | rfl | rfl
    · exact Way.refl _
    · exact (c'.trans b').trans a'
    · exact a'
    · exact b'.trans a'
  have of0 : ∀ u, u < 4 → Hang eg2 (inTo [] 0) 0 u := by
    intro u hu
    have : u = 0 ∨ u = 1 ∨ u = 2 ∨ u = 3 := by omega
    rcases this with rfl | rfl | rfl | rfl
    · exact Way.refl _
    · exact (a.trans b).trans c
    · exact a
    · exact a.trans b
  intro u v hu hv
  exact (to0 u hu).trans (of0 v hv)

theorem aw_match : MatchOk ea2 1 [0] 1 := by
  refine ⟨fun j hj => ?_, fun j hj => ?_⟩
  · obtain rfl : j = 0 := by omega
    decide
  · obtain rfl : j = 0 := by omega
    decide
theorem aw_cov : covAns 2 ea2 1 [0] 1 [1] 1 = (1, 0) := by
  unfold covAns
  rw [ea2_fault, if_neg (by decide), if_pos]
  · rfl
  · refine ⟨aw_match, fun j hj => ?_, rfl, fun i hi => ?_⟩
    · obtain rfl : j = 0 := by omega
      decide
    · obtain rfl : i = 0 := by omega
      exact .inr (.inr (by decide))
theorem aw_hvy : hvyAns 2 ea2 1 [0] 1 [2, 0] 2 = (2, 0) := by
  unfold hvyAns
  rw [ea2_fault, if_neg (by decide), if_pos]
  · rfl
  · refine ⟨aw_match, ⟨rfl, fun i hi => ?_⟩, fun v hv => ?_, fun i hi => ?_, by decide⟩
    · rcases two_cases (show i < 2 from hi) with rfl | rfl <;> decide
    · rcases two_cases (show v < 2 from hv) with rfl | rfl <;> decide
    · obtain rfl : i = 0 := by omega
      exact .inr (by decide)
theorem aw_lar : larAns 2 ea2 1 [0] 1 [] 0 = (1, 0) := by
  unfold larAns
  rw [ea2_fault, if_neg (by decide), if_pos]
  · rfl
  · refine ⟨aw_match, fun j hj => absurd hj (by omega), ?_⟩
    show 2 * ((1 : Nat) : Int) = ((2 : Nat) : Int) + ((0 : Nat) : Int) - oddTo ea2 (inTo [] 0) 2 2
    rw [oddTo_whole hang2 rfl]; rfl
theorem aw_nop : nopAns 2 ea2 [] 0 = 221 := by
  unfold nopAns
  rw [ea2_fault, if_neg (by decide), if_neg]
  rintro ⟨-, h⟩
  have h : ((0 : Nat) : Int) < oddTo ea2 (inTo [] 0) 2 2 := h
  rw [oddTo_whole hang2 rfl] at h
  omega
theorem aw_chp : chpAns 2 ea2 1 [0] 1 [3, 1] 2 [] 0 = (2, 0) := by
  unfold chpAns
  rw [ea2_fault, if_neg (by decide), if_pos]
  · rfl
  · refine ⟨aw_match, rfl, ⟨⟨rfl, fun i hi => ?_⟩, Nat.zero_le _, fun i hi => absurd hi (by omega)⟩, fun i hi => ?_, by decide⟩
    · rcases two_cases (show i < 2 from hi) with rfl | rfl <;> decide
    · obtain rfl : i = 0 := by omega
      exact .inr (show pairOf [3, 1] [] 0 0 1 ≤ 2 * 2 from by decide)
theorem aw_bnd : BndOk [1, 1] 2 2 := ⟨rfl, fun i hi => by rcases two_cases hi with rfl | rfl <;> decide⟩
theorem aw_fits : Fits (cpyOf ea2 1 [1, 1]) 2 ea2 1 := ⟨by decide, by decide⟩
theorem aw_gadTo : gadTo (cpyOf ea2 1 [1, 1]) 2 ea2 1 = eg2 := by rfl
theorem aw_gad : gadSize 2 ea2 1 [1, 1] 2 = (4, 3, 0) := by
  unfold gadSize
  rw [ea2_fault, if_neg (by decide), if_neg (fun t => t aw_bnd), if_neg (fun t => t aw_fits)]
  rfl
theorem aw_man : manAns 2 ea2 1 [1, 1] 2 [0] 1 [] 0 = (1, 0) := by
  unfold manAns
  rw [ea2_fault, if_neg (by decide), if_neg (fun t => t aw_bnd), if_neg (fun t => t aw_fits), if_pos]
  · rfl
  · refine ⟨⟨fun j hj => ?_, fun j hj => ?_, fun v hv => ?_⟩, fun j hj => absurd hj (by omega), ?_⟩
    · obtain rfl : j = 0 := by omega
      decide
    · obtain rfl : j = 0 := by omega
      decide
    · rcases two_cases (show v < 2 from hv) with rfl | rfl <;> decide
    · show 2 * (((1 : Nat) : Int) + nlTo ea2 1) = 4 + ((0 : Nat) : Int) - oddTo eg2 (inTo [] 0) 4 4
      rw [oddTo_whole hang4 rfl]; rfl
theorem aw_dbl : dblAns 2 ea2 1 [0] 1 [[0, 2], [2, 0]] 2 [2, 2] 2 [] 0 = (4, 0) := by
  unfold dblAns
  rw [ea2_fault, if_neg (by decide), if_neg, if_pos]
  · rfl
  · refine ⟨fun j hj => ?_, by decide, ⟨rfl, fun i hi => ?_⟩, ⟨⟨rfl, fun i hi => ?_⟩, Nat.zero_le _, fun i hi => absurd hi (by omega)⟩, fun j hj i hi => ?_, by decide⟩
    · obtain rfl : j = 0 := by omega
      decide
    · rcases two_cases (show i < 2 from hi) with rfl | rfl
      · refine ⟨⟨rfl, fun i hi => ?_⟩, by decide, fun j hj => ?_⟩
        · rcases two_cases (show i < 2 from hi) with rfl | rfl <;> decide
        · obtain rfl : j = 0 := by omega
          exact ⟨by decide, by decide⟩
      · refine ⟨⟨rfl, fun i hi => ?_⟩, by decide, fun j hj => ?_⟩
        · rcases two_cases (show i < 2 from hi) with rfl | rfl <;> decide
        · obtain rfl : j = 0 := by omega
          exact ⟨by decide, by decide⟩
    · rcases two_cases (show i < 2 from hi) with rfl | rfl <;> decide
    · have hj2 : j < 2 := hj
      obtain ⟨rfl, rfl⟩ : j = 1 ∧ i = 0 := by omega
      show pairOf [2, 2] [] 0 0 1 ≤ 2 * 2
      decide
  · refine fun t => t fun i hi => ?_
    obtain rfl : i = 0 := by omega
    decide
end Go.Proofs.YtpdppjngbbkbbaaDoor

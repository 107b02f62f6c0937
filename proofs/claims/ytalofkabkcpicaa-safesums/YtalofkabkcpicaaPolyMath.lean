/- The polynomial's value step by step, or the error: plain mathematics. -/
import Derived.Test.YtalofkabkcpicaaAbove
import Derived.Test.YtalofkabkcpicaaBase2
namespace Go.Proofs.Ytalofkabkcpicaa
open Go.RowKit

/-- The value and the error's number after k steps. -/
def polyAt (zs : List Int) (x : Int) : Nat → Int × Int
  | 0 => (0, 0)
  | k + 1 => if (polyAt zs x k).2 = 0 then (if (narrow ((polyAt zs x k).1 * x)).2 = 0 then narrow ((narrow ((polyAt zs x k).1 * x)).1 + zs.getD k 0) else (0, 10)) else (0, 10)

theorem polyAt_ok (zs : List Int) (x : Int) (k : Nat) (p m : Int) (h : polyAt zs x k = (p, 0)) (hm : narrow (p * x) = (m, 0)) : polyAt zs x (k + 1) = narrow (m + zs.getD k 0) := by
  simp only [polyAt, h, hm, if_true]
theorem polyAt_no (zs : List Int) (x : Int) (k : Nat) (p : Int) (h : polyAt zs x k = (p, 0)) (hm : narrow (p * x) = (0, 10)) : polyAt zs x (k + 1) = (0, 10) := by
  simp [polyAt, h, hm]
theorem polyAt_stays (zs : List Int) (x : Int) (k : Nat) (h : polyAt zs x k = (0, 10)) (d : Nat) : polyAt zs x (k + d) = (0, 10) := by
  induction d with
  | zero => exact h
  | succ d ih =>
    rw [← Nat.add_assoc]
    simp [polyAt, ih]
theorem polyAt_early (zs : List Int) (x : Int) (k : Nat) (p : Int) (n : Nat) (h : polyAt zs x k = (p, 0)) (hm : narrow (p * x) = (0, 10)) (hk : k < n) : polyAt zs x n = (0, 10) := by
  have := polyAt_stays zs x (k + 1) (polyAt_no zs x k p h hm) (n - (k + 1))
  rw [show k + 1 + (n - (k + 1)) = n from by omega] at this
  exact this
theorem polyAt_late (zs : List Int) (x : Int) (k : Nat) (p m : Int) (n : Nat) (h : polyAt zs x k = (p, 0)) (hm : narrow (p * x) = (m, 0)) (hs : narrow (m + zs.getD k 0) = (0, 10)) (hk : k < n) : polyAt zs x n = (0, 10) := by
  have := polyAt_stays zs x (k + 1) (by rw [polyAt_ok zs x k p m h hm]; exact hs) (n - (k + 1))
  rw [show k + 1 + (n - (k + 1)) = n from by omega] at this
  exact this

theorem nbox1 {w w' : World} {a b : Nat} {c0 c1 : Value} (k : Kept w w') (h0 : w.cell? ⟨a, 0, none⟩ = some c0) (h1 : w.cell? ⟨b, 0, none⟩ = some c1) (f0 : w.frozen? ⟨a, 0, none⟩ = false) (f1 : w.frozen? ⟨b, 0, none⟩ = false) :
    w'.cell? ⟨a, 0, none⟩ = some c0 ∧ w'.cell? ⟨b, 0, none⟩ = some c1 ∧ w'.frozen? ⟨a, 0, none⟩ = false ∧ w'.frozen? ⟨b, 0, none⟩ = false :=
  ⟨k.cell h0, k.cell h1, (Below.frozen (p := ⟨a, 0, none⟩) k (lt_of_cell h0)).trans f0, (Below.frozen (p := ⟨b, 0, none⟩) k (lt_of_cell h1)).trans f1⟩
end Go.Proofs.Ytalofkabkcpicaa

/- The document's sum of numbers of any length, where the signs are the same. -/
import Derived.Test.YtikmollocchfnabAbove
import Derived.OwnWalk
namespace Go.Proofs.Ytikmollocchfnab
open Go.RowKit

theorem Try.infoU : (Try.prog.info? 32).map (fun i => (i.zero, i.size, i.bytes)) = some (some (.int .u64 0), 1, 8) := by kernel_rfl

theorem at_quiet (ao : Option Addr) (n cap : Nat) (ds : List Nat) (i : Int) (w : World) (q : Nat) (h : Row w ao n cap ds) (h0 : 0 ≤ i) :
    Calls Try.prog 26 #[.slice ao n cap, .int .i64 i] (w.drewN q) fun e w'' => e = .returned (.int .u64 ((ds.getD i.toNat 0 : Nat) : Int)) ∧ ∃ m, w'' = w.drewN m :=
  (at_calls ao n cap ds i _ (h.kept ((Kept.refl _).drewN _)) h0).mono fun _ _ ⟨he, hw⟩ => ⟨he, q, hw.symm⟩

theorem at_quietN (ao : Option Addr) (n cap : Nat) (ds : List Nat) (k x : Nat) (w : World) (q : Nat) (h : Row w ao n cap ds) (hx : x = ds.getD k 0) :
    Calls Try.prog 26 #[.slice ao n cap, .int .i64 (k : Int)] (w.drewN q) fun e w'' => e = .returned (.int .u64 (x : Int)) ∧ ∃ m, w'' = w.drewN m := by
  have := at_quiet ao n cap ds (k : Int) w q h (by omega)
  rw [Int.toNat_natCast, ← hx] at this
  exact this

/-- The boxes of the arguments and of the answer. -/
def plusW (w : World) (m1 m2 : Bool) (ao bo : Option Addr) (n1 c1 n2 c2 : Nat) : World :=
  ((w.alloc (Obj.cells #[.bool m1, .slice ao n1 c1] 49)).alloc (Obj.cells #[.bool m2, .slice bo n2 c2] 49)).alloc (Obj.cells #[.bool false, .slice none 0 0] 49)

theorem plusW_kept (w : World) (m1 m2 : Bool) (ao bo : Option Addr) (n1 c1 n2 c2 : Nat) : Kept w (plusW w m1 m2 ao bo n1 c1 n2 c2) := (((Kept.refl _).alloc _).alloc _).alloc _
theorem plusW_size (w : World) (m1 m2 : Bool) (ao bo : Option Addr) (n1 c1 n2 c2 : Nat) : (plusW w m1 m2 ao bo n1 c1 n2 c2).heap.size = w.heap.size + 3 := by simp [plusW]

/-- What the boxes hold behind whatever came since. -/
theorem plusW_cells {w wr : World} {m1 m2 : Bool} {ao bo : Option Addr} {n1 c1 n2 c2 : Nat} (h : Kept (plusW w m1 m2 ao bo n1 c1 n2 c2) wr) :
    wr.cell? ⟨w.heap.size, 0, none⟩ = some (.bool m1) ∧ wr.cell? ⟨w.heap.size, 1, none⟩ = some (.slice ao n1 c1) ∧ wr.cell? ⟨w.heap.size + 1, 0, none⟩ = some (.bool m2) ∧ wr.cell? ⟨w.heap.size + 1, 1, none⟩ = some (.slice bo n2 c2) ∧
    wr.cell? ⟨w.heap.size + 1 + 1, 0, none⟩ = some (.bool false) ∧ wr.cell? ⟨w.heap.size + 1 + 1, 1, none⟩ = some (.slice none 0 0) ∧ wr.frozen? ⟨w.heap.size + 1 + 1, 0, none⟩ = false ∧ wr.frozen? ⟨w.heap.size + 1 + 1, 1, none⟩ = false ∧ w.heap.size + 3 ≤ wr.heap.size := by
  have hs := h.size
  rw [plusW_size] at hs
  refine ⟨h.cell (by simp [plusW, go_sem]), h.cell (by simp [plusW, go_sem]), h.cell (by simp [plusW, go_sem]), h.cell (by simp [plusW, go_sem]), h.cell (by simp [plusW, go_sem]), h.cell (by simp [plusW, go_sem]), ?_, ?_, hs⟩
  · rw [Below.frozen h (by rw [plusW_size]; show w.heap.size + 1 + 1 < _; omega)]; simp [plusW, go_sem]
  · rw [Below.frozen h (by rw [plusW_size]; show w.heap.size + 1 + 1 < _; omega)]; simp [plusW, go_sem]

theorem mask16 (x : Nat) (hx : x < 18446744073709551616) : bits .and .u64 (x : Int) 65535 = ((x % 65536 : Nat) : Int) := by
  have := u64_and_nat x 65535 hx (by omega)
  rw [show ((65535 : Nat) : Int) = 65535 from rfl] at this
  rw [this, Nat.and_two_pow_sub_one_eq_mod x 16]

/-- What the round of the sum keeps. -/
structure PlusRel (w W : World) (da db : List Nat) (N k cc : Nat) (ds : List Nat) (v : Value) (wr : World) : Prop where
  kN : k ≤ N + 1
  c1 : cc ≤ 1
  last : k = N + 1 → cc = 0
  len : ds.length = k
  ok : Dg.Ok ds
  val : Dg.val ds + 65536 ^ k * cc = Dg.val (da.take k) + Dg.val (db.take k)
  own : wr.ownsRow (w.heap.size + 3) 32 1 v k (vals ds)
  kept : Kept W wr

theorem PlusRel.step {w W wr w1 : World} {da db : List Nat} {N k cc : Nat} {ds : List Nat} {v v' : Value} (h : PlusRel w W da db N k cc ds v wr) (ka : Dg.Ok da) (kb : Dg.Ok db) (hN : da.length ≤ N) (hM : db.length ≤ N)
    (hgo : k < da.length ∨ k < db.length ∨ 0 < cc) (hW : W.heap.size = w.heap.size + 3)
    (own : w1.ownsRow (w.heap.size + 3) 32 1 v' (k + 1) (vals ds ++ [.int .u64 (((da.getD k 0 + db.getD k 0 + cc) % 65536 : Nat) : Int)])) (grow : ∃ o, (wr.alloc o).grownBy w1 v.ownBlock) :
    PlusRel w W da db N (k + 1) ((da.getD k 0 + db.getD k 0 + cc) / 65536) (ds ++ [(da.getD k 0 + db.getD k 0 + cc) % 65536]) v' w1 := by
  have h1 := ka k
  have h2 := kb k
  have h3 := h.c1
  have h4 := h.kN
  have h5 := h.last
  refine ⟨by omega, by omega, ?_, by simp [h.len], Dg.ok_snoc h.ok (by omega), ?_, by rw [← vals_snoc]; exact own, ?_⟩
  · intro e
    have e1 : da.getD k 0 = 0 := by simp [List.getD, List.getElem?_eq_none (by omega : da.length ≤ k)]
    have e2 : db.getD k 0 = 0 := by simp [List.getD, List.getElem?_eq_none (by omega : db.length ≤ k)]
    rw [e1, e2]; omega
  · rw [Dg.val_snoc, h.len, Nat.pow_succ, Dg.val_take_step, Dg.val_take_step]
    exact Dg.plus_step (65536 ^ k) (Dg.val (da.take k)) (Dg.val (db.take k)) (Dg.val ds) (da.getD k 0) (db.getD k 0) cc h.val
  · obtain ⟨o, hg⟩ := grow
    have hk := h.kept.alloc o
    refine Below.grown hk hg hk.size ?_
    intro j hj
    rw [hW]
    exact (h.own.lt j hj).1

/-- The end of the sum. -/
theorem PlusRel.done {w W wr : World} {da db : List Nat} {N k cc : Nat} {ds : List Nat} {v : Value} (h : PlusRel w W da db N k cc ds v wr) (h1 : da.length ≤ k) (h2 : db.length ≤ k) (h3 : cc = 0) : Dg.val ds = Dg.val da + Dg.val db := by
  have := h.val
  rw [h3, Dg.val_take_all _ _ h1, Dg.val_take_all _ _ h2] at this
  simpa using this

theorem owns_drewN {w : World} {base e : Nat} {v : Value} {n : Nat} {xs : List Value} (h : w.ownsRow base e 1 v n xs) (q : Nat) : (w.drewN q).ownsRow base e 1 v n xs := h

theorem owns_slice {w : World} {base e : Nat} {v : Value} {n : Nat} {xs : List Value} (h : w.ownsRow base e 1 v n xs) : ∃ ao cap, v = .slice ao n cap := by
  rcases h.2 with ⟨rfl, rfl⟩ | ⟨g, cap, cur, rfl, _⟩
  · exact ⟨none, 0, rfl⟩
  · exact ⟨_, cap, rfl⟩

end Go.Proofs.Ytikmollocchfnab

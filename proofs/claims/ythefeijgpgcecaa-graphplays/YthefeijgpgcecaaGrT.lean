/- Pointers to nets that are held against each other. -/
import Derived.Test.YthefeijgpgcecaaGrS
import Derived.LaidEqlPtr
namespace Go.Proofs.Ythefeijgpgcecaa
open Go.RowKit

theorem block_of_cell {w : World} {p o : Nat} {v : Value} (h : w.cell? ⟨p, o, none⟩ = some v) : ∃ c t r, w.heap[p]? = some (.cells c t r) := by
  unfold World.cell? at h
  split at h
  · rename_i c t r e; exact ⟨c, t, r, e⟩
  · cases h

theorem sameAddr_apart {P : Program} {w : World} {p q : Nat} (hne : p ≠ q) {u v : Value} (c : w.cell? ⟨p, 0, none⟩ = some u) (d : w.cell? ⟨q, 0, none⟩ = some v) (z : ∀ o, w.frozen? ⟨p, o, none⟩ = false) (zq : ∀ o, w.frozen? ⟨q, o, none⟩ = false) :
    (sameAddr ⟨p, 0, none⟩ ⟨q, 0, none⟩).run P w = .ok false w := by
  obtain ⟨ca, ta, ra, hp⟩ := block_of_cell c
  obtain ⟨cb, tb, rb, hq⟩ := block_of_cell d
  simp [sameAddr, hne, z, zq, hp, hq, noView, viewAt, World.shape?, mayBeOne, stringish]

theorem infoN0 : (Try.prog.info? 46).map (fun i => i.size) = some 2 := by kernel_rfl
theorem infoN : ∃ i : TypeInfo, Try.prog.info? 46 = some i ∧ i.size = 2 := by
  have h := infoN0
  cases e : Try.prog.info? 46 with
  | none => rw [e] at h; cases h
  | some i =>
    rw [e] at h
    simp only [Option.map_some, Option.some.injEq] at h
    exact ⟨i, rfl, h⟩

theorem ptr_same (p : Nat) (w : World) : (binOp .eql 27 (.pointer (some ⟨p, 0, none⟩)) (.pointer (some ⟨p, 0, none⟩))).run Try.prog w = .ok (.bool true) w := by
  obtain ⟨j, hj, _⟩ := infoN
  exact run_eql_ptr_same w _ Try.underlying27 hj

theorem ptr_other {w : World} {p q : Nat} (hne : p ≠ q) {u v : Value} (c : w.cell? ⟨p, 0, none⟩ = some u) (d : w.cell? ⟨q, 0, none⟩ = some v) (z : ∀ o, w.frozen? ⟨p, o, none⟩ = false) (zq : ∀ o, w.frozen? ⟨q, o, none⟩ = false) :
    (binOp .eql 27 (.pointer (some ⟨p, 0, none⟩)) (.pointer (some ⟨q, 0, none⟩))).run Try.prog w = .ok (.bool false) w := by
  obtain ⟨j, hj, hs⟩ := infoN
  have h : ∀ d : Nat, (Op.equalIn (d + 1) 27 (.pointer (some ⟨p, 0, none⟩)) (.pointer (some ⟨q, 0, none⟩))).run Try.prog w = .ok false w := fun d' => by
    simp [Op.equalIn, run_underlying Try.underlying27, sizeOf, typeInfo, hj, hs, sameAddr_apart hne c d z zq]
  simp only [binOp]
  simp [Op.equal, Op.maxDepth, h 9999]

theorem ptr_kept {w w' : World} (K : Kept w w') {p q : Nat} (hne : p ≠ q) {u v : Value} (c : w.cell? ⟨p, 0, none⟩ = some u) (d : w.cell? ⟨q, 0, none⟩ = some v) (z : ∀ o, w.frozen? ⟨p, o, none⟩ = false) (zq : ∀ o, w.frozen? ⟨q, o, none⟩ = false) :
    (binOp .eql 27 (.pointer (some ⟨p, 0, none⟩)) (.pointer (some ⟨q, 0, none⟩))).run Try.prog w' = .ok (.bool false) w' :=
  ptr_other hne (K.cell c) (K.cell d) (fun o => cell_keptF K c (z o)) (fun o => cell_keptF K d (zq o))
end Go.Proofs.Ythefeijgpgcecaa

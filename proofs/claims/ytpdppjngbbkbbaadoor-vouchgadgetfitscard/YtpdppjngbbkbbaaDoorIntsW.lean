/- Rows of int; the law's comparison of two of them. -/
import Derived.Test.YtpdppjngbbkbbaaDoorEdgeC
import Derived.Test.YtpdppjngbbkbbaaDoorFrame
import Derived.Maps.AppendAt
namespace Go.Proofs.YtpdppjngbbkbbaaDoor
open Go.RowKit

/-- A row of int. -/
structure JRow (w : World) (ao : Option Addr) (n cap : Nat) (zs : List Int) : Prop where
  len : n = zs.length
  room : n ≤ cap
  most : cap ≤ maxLen
  cell : 0 < n → ∃ b off, ao = some ⟨b, off, none⟩ ∧ ∀ i, i < n → w.cell? ⟨b, off + i, none⟩ = some (.int .i64 (zs.getD i 0))

theorem JRow.kept {w w' : World} {ao : Option Addr} {n cap : Nat} {zs : List Int} (h : JRow w ao n cap zs) (k : Kept w w') : JRow w' ao n cap zs :=
  ⟨h.len, h.room, h.most, fun hn => by
    obtain ⟨b, off, e, hc⟩ := h.cell hn
    exact ⟨b, off, e, fun i hi => k.cell (hc i hi)⟩⟩

def jvals (zs : List Int) : List Value := zs.map (Value.int .i64)
theorem jvals_get (zs : List Int) (i : Nat) (h : i < zs.length) : (jvals zs)[i]? = some (.int .i64 (zs.getD i 0)) := by simp [jvals, List.getD, h]
theorem jvals_snoc (zs : List Int) (x : Int) : jvals zs ++ [.int .i64 x] = jvals (zs ++ [x]) := by simp [jvals]

theorem JRow.of_owns {w : World} {base e : Nat} {ao : Option Addr} {n cap : Nat} {zs : List Int} (h : w.ownsRow base e 1 (.slice ao n cap) n (jvals zs)) : JRow w ao n cap zs := by
  have hl : zs.length = n := by have := h.1; simpa [jvals] using this
  rcases h.2 with ⟨h1, h2⟩ | ⟨g, cap', cur, h1, _, _, hnc, hm, _⟩
  · simp only [Value.slice.injEq] at h1
    obtain ⟨_, h3, rfl⟩ := h1
    exact ⟨hl.symm, by omega, by unfold maxLen; omega, fun hp => by omega⟩
  · simp only [Value.slice.injEq, true_and] at h1
    obtain ⟨rfl, rfl⟩ := h1
    refine ⟨hl.symm, hnc, hm, fun _ => ⟨g, 0, rfl, fun i hi => ?_⟩⟩
    rw [Nat.zero_add, h.cellAt i (by omega), jvals_get zs i (by omega)]

theorem owns_slice1j {w : World} {base e : Nat} {v : Value} {n : Nat} {xs : List Value} (h : w.ownsRow base e 1 v n xs) : ∃ ao cap, v = .slice ao n cap := by
  rcases h.2 with ⟨rfl, rfl⟩ | ⟨g, cap, cur, rfl, _⟩
  · exact ⟨none, 0, rfl⟩
  · exact ⟨_, cap, rfl⟩

theorem infoJ0 : (Tryd.prog.info? 3).map (fun i => (i.zero, i.size, i.bytes)) = some (some (.int .i64 0), 1, 8) := by kernel_rfl
theorem infoJ : ∃ i : TypeInfo, Tryd.prog.info? 3 = some i ∧ i.zero = some (.int .i64 0) ∧ i.size = 1 ∧ i.bytes = 8 := by
  have h := infoJ0
  cases e : Tryd.prog.info? 3 with
  | none => rw [e] at h; cases h
  | some i =>
    rw [e] at h
    simp only [Option.map_some, Option.some.injEq, Prod.mk.injEq] at h
    exact ⟨i, rfl, h.1, h.2.1, h.2.2⟩

theorem cell_newj (w : World) (T : TypeId) (u : Value) : ∀ j u', ([u] : List Value)[j]? = some u' → (w.alloc (Obj.cells #[u] T)).cell? ((⟨w.heap.size, 0, none⟩ : Addr).add j) = some u' := by
  intro j u' h
  match j, h with
  | 0, h => simp at h; subst h; simp [go_sem, Addr.add]

end Go.Proofs.YtpdppjngbbkbbaaDoor

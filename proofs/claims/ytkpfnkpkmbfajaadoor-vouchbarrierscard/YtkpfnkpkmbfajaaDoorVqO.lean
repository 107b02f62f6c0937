/- Rows of numbers that came in as arguments (the vouch seat's). -/
import Derived.Test.YtkpfnkpkmbfajaaDoorVoA
import Derived.Test.YtkpfnkpkmbfajaaDoorGraphOpen
namespace Go.Proofs.YtkpfnkpkmbfajaaDoor
open Go.ChangeShapes Go.WideShapes Go.ChangeAt Go.RowKit Go.Joins Go.Deep

theorem row_at {a : Addr} (m : Nat) (h : a.spot = none) : a.add m = ⟨a.block, a.off + m, none⟩ := by
  obtain ⟨b, off, spot⟩ := a
  simp only at h
  subst h
  by_cases hm : m = 0
  · subst hm; simp [Addr.add]
  · simp [Addr.add, hm]

theorem open_longs {H : Type} {enc : TypeId × Value → H} {W : World} {base : Nat} {held : Bool} {fuel : Nat} {ao : Option Addr} {len cap : Nat} {x : DataW H × List MemPlace} (h : DataW.trod enc Tryd.prog W base (fun _ => true) held fuel 26 [.slice ao len cap] = some x) : ∃ zs : List Int, JRow W ao len cap zs := by
  rcases open_slice Tryd.underlying26 h with ⟨hcs, rfl⟩ | ⟨a, l, c, m, n, D, Pl, hcs, _, hl, hm, hmm, rfl, hel⟩
  · simp only [List.cons.injEq, Value.slice.injEq, and_true] at hcs
    obtain ⟨rfl, rfl, rfl⟩ := hcs
    exact ⟨[], ⟨rfl, by omega, by unfold maxLen; omega, fun h => by omega⟩⟩
  · simp only [List.cons.injEq, Value.slice.injEq, and_true] at hcs
    obtain ⟨rfl, rfl, rfl⟩ := hcs
    simp only [if_true] at hmm
    subst hmm
    rw [cellsL] at hel
    have hx : ∀ i, i < len → ∃ z : Int, W.cell? (a.add (i * 1)) = some (.int .i64 z) := fun i hi => by
      obtain ⟨cs', hc, ht⟩ := hel i (by omega)
      obtain ⟨z, rfl, _, _⟩ := DataW.trod_int Tryd.underlying2 ht
      obtain ⟨_, _, hg⟩ := World.cells?_some hc
      exact ⟨z, by have := hg 0 (by simp); rw [add_add] at this; simpa using this⟩
    obtain ⟨F, hF⟩ := choose_lt hx
    refine ⟨(List.range len).map F, ⟨by simp, hl, hm, fun hn => ?_⟩⟩
    have hsp : a.spot = none := by
      have := World.cell?_spot (hF 0 hn)
      simpa [Addr.add] using this
    refine ⟨a.block, a.off, by cases a; simp_all, fun i hi => ?_⟩
    have := hF i hi
    rw [row_at _ hsp, Nat.mul_one] at this
    rw [this]
    simp [List.getD, hi]

theorem open_ints {H : Type} {enc : TypeId × Value → H} {W : World} {base : Nat} {held : Bool} {fuel : Nat} {ao : Option Addr} {len cap : Nat} {x : DataW H × List MemPlace} (h : DataW.trod enc Tryd.prog W base (fun _ => true) held fuel 25 [.slice ao len cap] = some x) : ∃ zs : List Int, JRow W ao len cap zs := by
  rcases open_slice Tryd.underlying25 h with ⟨hcs, rfl⟩ | ⟨a, l, c, m, n, D, Pl, hcs, _, hl, hm, hmm, rfl, hel⟩
  · simp only [List.cons.injEq, Value.slice.injEq, and_true] at hcs
    obtain ⟨rfl, rfl, rfl⟩ := hcs
    exact ⟨[], ⟨rfl, by omega, by unfold maxLen; omega, fun h => by omega⟩⟩
  · simp only [List.cons.injEq, Value.slice.injEq, and_true] at hcs
    obtain ⟨rfl, rfl, rfl⟩ := hcs
    simp only [if_true] at hmm
    subst hmm
    rw [cellsI] at hel
    have hx : ∀ i, i < len → ∃ z : Int, W.cell? (a.add (i * 1)) = some (.int .i64 z) := fun i hi => by
      obtain ⟨cs', hc, ht⟩ := hel i (by omega)
      obtain ⟨z, rfl, _, _⟩ := DataW.trod_int Tryd.underlying3 ht
      obtain ⟨_, _, hg⟩ := World.cells?_some hc
      exact ⟨z, by have := hg 0 (by simp); rw [add_add] at this; simpa using this⟩
    obtain ⟨F, hF⟩ := choose_lt hx
    refine ⟨(List.range len).map F, ⟨by simp, hl, hm, fun hn => ?_⟩⟩
    have hsp : a.spot = none := by
      have := World.cell?_spot (hF 0 hn)
      simpa [Addr.add] using this
    refine ⟨a.block, a.off, by cases a; simp_all, fun i hi => ?_⟩
    have := hF i hi
    rw [row_at _ hsp, Nat.mul_one] at this
    rw [this]
    simp [List.getD, hi]

end Go.Proofs.YtkpfnkpkmbfajaaDoor

/- Labels out of words: a list of float64. -/
import Derived.Test.YtnjnmgpjohfjiabDoorStrict
import Derived.Laws.AppendOwn
namespace Go.Proofs.YtnjnmgpjohfjiabDoor
open Go.RowKit

/-- A row of labels. -/
structure FRow (w : World) (ao : Option Addr) (n cap : Nat) (ds : List Nat) : Prop where
  len : n = ds.length
  room : n ≤ cap
  most : cap ≤ maxLen
  cell : 0 < n → ∃ b off, ao = some ⟨b, off, none⟩ ∧ ∀ i, i < n → w.cell? ⟨b, off + i, none⟩ = some (.float .f64 (ds.getD i 0))

theorem FRow.kept {w w' : World} {ao : Option Addr} {n cap : Nat} {ds : List Nat} (h : FRow w ao n cap ds) (k : Kept w w') : FRow w' ao n cap ds :=
  ⟨h.len, h.room, h.most, fun hn => by
    obtain ⟨b, off, e, hc⟩ := h.cell hn
    exact ⟨b, off, e, fun i hi => k.cell (hc i hi)⟩⟩

def fvals (ds : List Nat) : List Value := ds.map (Value.float .f64)
theorem fvals_len (ds : List Nat) : (fvals ds).length = ds.length := by simp [fvals]
theorem fvals_get (ds : List Nat) (i : Nat) (h : i < ds.length) : (fvals ds)[i]? = some (.float .f64 (ds.getD i 0)) := by simp [fvals, List.getD, h]
theorem fvals_take (ds : List Nat) (k : Nat) (h : k < ds.length) : fvals (ds.take k) ++ [.float .f64 (ds.getD k 0)] = fvals (ds.take (k + 1)) := by
  unfold fvals
  rw [List.take_succ_eq_append_getElem h, List.map_append]
  have e : ds.getD k 0 = ds[k] := by simp [List.getD, h]
  rw [e]
  rfl

theorem FRow.of_owns {w : World} {base e : Nat} {ao : Option Addr} {n cap : Nat} {ds : List Nat} (h : w.ownsRow base e 1 (.slice ao n cap) ds.length (fvals ds)) (hn : n = ds.length) : FRow w ao n cap ds := by
  subst hn
  rcases h.2 with ⟨h1, h2⟩ | ⟨g, cap', cur, h1, _, _, hnc, hm, _⟩
  · simp only [Value.slice.injEq] at h1
    obtain ⟨_, h3, rfl⟩ := h1
    exact ⟨rfl, by omega, by unfold maxLen; omega, fun hp => by omega⟩
  · simp only [Value.slice.injEq, true_and] at h1
    obtain ⟨rfl, rfl⟩ := h1
    refine ⟨rfl, hnc, hm, fun _ => ⟨g, 0, rfl, fun i hi => ?_⟩⟩
    rw [Nat.zero_add, h.cellAt i (by omega), fvals_get ds i hi]

theorem owns_slice1 {w : World} {base e : Nat} {v : Value} {n : Nat} {xs : List Value} (h : w.ownsRow base e 1 v n xs) : ∃ ao cap, v = .slice ao n cap := by
  rcases h.2 with ⟨rfl, rfl⟩ | ⟨g, cap, cur, rfl, _⟩
  · exact ⟨none, 0, rfl⟩
  · exact ⟨_, cap, rfl⟩

theorem cell_new1 (w : World) (T : TypeId) (u : Value) : ∀ j u', ([u] : List Value)[j]? = some u' → (w.alloc (Obj.cells #[u] T)).cell? ((⟨w.heap.size, 0, none⟩ : Addr).add j) = some u' := by
  intro j u' h
  match j, h with
  | 0, h => simp at h; subst h; simp [go_sem, Addr.add]

/-- The state of the loop behind k labels. -/
structure FLoop (w : World) (ds : List Nat) (k : Nat) (v : Value) (wr : World) : Prop where
  own : wr.ownsRow w.heap.size 35 1 v k (fvals (ds.take k))
  kept : Kept w wr

theorem infoF0 : (Tryd.prog.info? 35).map (fun i => (i.zero, i.size, i.bytes)) = some (some (.float .f64 0), 1, 8) := by kernel_rfl
theorem infoF : ∃ i : TypeInfo, Tryd.prog.info? 35 = some i ∧ i.zero = some (.float .f64 0) ∧ i.size = 1 ∧ i.bytes = 8 := by
  have h := infoF0
  cases e : Tryd.prog.info? 35 with
  | none => rw [e] at h; cases h
  | some i =>
    rw [e] at h
    simp only [Option.map_some, Option.some.injEq, Prod.mk.injEq] at h
    exact ⟨i, rfl, h.1, h.2.1, h.2.2⟩

theorem FLoop.step {w : World} {ds : List Nat} {k : Nat} {v v' : Value} {wr w1 : World} {o : Obj} (h : FLoop w ds k v wr) (hk : k < ds.length) (own : w1.ownsRow w.heap.size 35 1 v' (k + 1) (fvals (ds.take k) ++ [.float .f64 (ds.getD k 0)])) (grow : (wr.alloc o).grownBy w1 v.ownBlock) :
    FLoop w ds (k + 1) v' w1 := by
  refine ⟨by rw [← fvals_take ds k hk]; exact own, ?_⟩
  have hk' := h.kept.alloc o
  exact Below.grown hk' grow hk'.size (fun j hj => (h.own.lt j hj).1)

set_option maxRecDepth 100000 in
set_option maxHeartbeats 1000000 in
theorem floats_calls (ao : Option Addr) (n cap : Nat) (ds : List Nat) (w : World) (h : Row w ao n cap ds) (hb : n * 8 ≤ 140737488355328) :
    Calls Tryd.prog 9 #[.slice ao n cap] w fun e w' => ∃ ao' cap', e = .returned (.slice ao' n cap') ∧ FRow w' ao' n cap' ds ∧ Kept w w' := by
  have hl1 : n ≤ ds.length := Nat.le_of_eq h.len
  have hl2 : ds.length ≤ n := Nat.le_of_eq h.len.symm
  have hr := h.room
  obtain ⟨i0, hi, hz0, hz1, hz2⟩ := infoF
  go_enter Tryd.func9, Tryd.ntmps9
  go_wp2_with fail
  go_loopw [3, 8] (fun v i wr => ∃ k : Nat, k ≤ n ∧ i = .int .i64 k ∧ FLoop w ds k v wr) (fun _ i _ => n - (intOf i).toNat)
  case atStart => exact ⟨0, by omega, rfl, ⟨World.ownsRow_nil _ _ _ _, Kept.refl _⟩⟩
  case round =>
    obtain ⟨k, hk, rfl, R⟩ := hrel
    by_cases hgo : (k : Int) < (n : Int)
    · obtain ⟨b, off, rfl, hc⟩ := h.cell (by omega)
      have hcx := R.kept.cell (hc k (by omega))
      have fr := frombits_run (ds.getD k 0)
      clear hc
      obtain ⟨x, ex⟩ : ∃ x, x = ds.getD k 0 := ⟨_, rfl⟩
      rw [← ex] at hcx fr
      have EX := hid_of ex
      clear ex
      go_wp2_with (at_builtin; refine wpList_append_own _ rfl _ _ 30 rfl w.heap.size 35 i0 (.float .f64 0) 1 8 Tryd.underlying30 hi hz0 hz1 hz2 rfl (by decide) _ _ _ rfl (R.own.alloc _) ⟨wr.heap.size, 0, none⟩ 1 1 [.float .f64 x] rfl rfl (cell_new1 _ _ _) (by intro u hu; simp at hu; subst hu; rfl) (by unfold maxLen; omega) (by omega) (by simp; exact Nat.le_succ_of_le R.kept.size) ?_)
      intro v' w1 hown hgrow _
      go_wp2_with fail
      go_roundw
      case rel => exact ⟨k + 1, by omega, by go_num, R.step (by omega) (by rw [← EX.out]; exact hown) hgrow⟩
      case measure => simp [intOf]; omega
    · obtain ⟨so, cp, rfl⟩ := owns_slice1 R.own
      obtain rfl : k = n := by omega
      go_wp2
      go_ret
      refine ⟨so, cp, rfl, FRow.of_owns (e := 35) (base := w.heap.size) ?_ (by omega), R.kept⟩
      have := R.own
      rw [List.take_of_length_le hl2] at this
      rw [← h.len]
      exact this
end Go.Proofs.YtnjnmgpjohfjiabDoor

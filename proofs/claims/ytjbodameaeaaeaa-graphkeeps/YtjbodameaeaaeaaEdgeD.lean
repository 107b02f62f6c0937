/- Rows of edges that the call owns; slices.Clone of edges. -/
import Derived.Test.YtjbodameaeaaeaaEdgeC
import Derived.Laws.AppendOwn
import Derived.Laws.OwnMore
import Derived.OwnWalk
import Derived.WalkSpells
namespace Go.Proofs.Ytjbodameaeaaeaa
open Go.RowKit

def ecells (e : Ed) : List Value := [.int .i64 e.f, .int .i64 e.t, .int .i64 e.c, .int .i64 e.k]
/-- The cells of a row of edges. -/
def evals : List Ed → List Value
  | [] => []
  | e :: es => ecells e ++ evals es

theorem evals_len (es : List Ed) : (evals es).length = es.length * 4 := by
  induction es with
  | nil => rfl
  | cons e es ih => simp only [evals, ecells, List.length_append, List.length_cons, List.length_nil, ih]; omega

theorem evals_app (es fs : List Ed) : evals (es ++ fs) = evals es ++ evals fs := by
  induction es with
  | nil => rfl
  | cons e es ih => simp only [List.cons_append, evals, ih, List.append_assoc]

theorem evals_get (es : List Ed) : ∀ (i : Nat), i < es.length → (evals es)[i * 4]? = some (.int .i64 (edAt es i).f) ∧ (evals es)[i * 4 + 1]? = some (.int .i64 (edAt es i).t) ∧ (evals es)[i * 4 + 2]? = some (.int .i64 (edAt es i).c) ∧ (evals es)[i * 4 + 3]? = some (.int .i64 (edAt es i).k) := by
  induction es with
  | nil => intro i hi; simp at hi
  | cons e es ih =>
    intro i hi
    match i with
    | 0 => exact ⟨rfl, rfl, rfl, rfl⟩
    | i + 1 =>
      have h := ih i (by simpa using hi)
      have hg : ∀ j, (evals (e :: es))[i * 4 + j + 4]? = (evals es)[i * 4 + j]? := fun j => by
        show (ecells e ++ evals es)[i * 4 + j + 4]? = _
        rw [List.getElem?_append_right (by simp [ecells])]
        simp [ecells]
      have ha : edAt (e :: es) (i + 1) = edAt es i := by simp [edAt]
      rw [ha]
      refine ⟨?_, ?_, ?_, ?_⟩
      · rw [← h.1, show (i + 1) * 4 = i * 4 + 0 + 4 by omega, hg 0]; rfl
      · rw [← h.2.1, show (i + 1) * 4 + 1 = i * 4 + 1 + 4 by omega, hg 1]
      · rw [← h.2.2.1, show (i + 1) * 4 + 2 = i * 4 + 2 + 4 by omega, hg 2]
      · rw [← h.2.2.2, show (i + 1) * 4 + 3 = i * 4 + 3 + 4 by omega, hg 3]

theorem evals_one (es : List Ed) : ∀ u ∈ evals es, u.oneCell' = true := by
  induction es with
  | nil => intro u hu; cases hu
  | cons e es ih =>
    intro u hu
    simp only [evals, ecells, List.mem_append, List.mem_cons, List.not_mem_nil, or_false] at hu
    rcases hu with (rfl | rfl | rfl | rfl) | hu
    · rfl
    · rfl
    · rfl
    · rfl
    · exact ih u hu

/-- The cells of a row, one by one. -/
theorem ERow.news {w : World} {ad : Addr} {n cap : Nat} {es : List Ed} (h : ERow w (some ad) n cap es) : ∀ j u, (evals es)[j]? = some u → w.cell? (ad.add j) = some u := by
  intro j u hu
  have hj : j < es.length * 4 := by
    rcases Nat.lt_or_ge j (es.length * 4) with g | g
    · exact g
    · rw [List.getElem?_eq_none (by rw [evals_len]; exact g)] at hu; cases hu
  have hl := h.len
  obtain ⟨b, off, e, hc⟩ := h.cell (by omega)
  simp only [Option.some.injEq] at e
  subst e
  have ga : ∀ m, (⟨b, off, none⟩ : Addr).add m = ⟨b, off + m, none⟩ := fun m => by
    by_cases hm : m = 0
    · subst hm; simp [Addr.add]
    · simp [Addr.add, hm]
  obtain ⟨q, r, rfl, hr⟩ : ∃ q r, j = q * 4 + r ∧ r < 4 := ⟨j / 4, j % 4, by omega, by omega⟩
  obtain ⟨g1, g2, g3, g4⟩ := hc q (by omega)
  obtain ⟨v1, v2, v3, v4⟩ := evals_get es q (by omega)
  rw [ga]
  have hm : r = 0 ∨ r = 1 ∨ r = 2 ∨ r = 3 := by omega
  rcases hm with rfl | rfl | rfl | rfl
  · exact g1.trans (v1.symm.trans hu)
  · exact g2.trans (v2.symm.trans hu)
  · exact g3.trans (v3.symm.trans hu)
  · exact g4.trans (v4.symm.trans hu)

theorem ERow.of_owns {w : World} {base e : Nat} {ao : Option Addr} {n cap : Nat} {es : List Ed} (h : w.ownsRow base e 4 (.slice ao n cap) n (evals es)) : ERow w ao n cap es := by
  have hl := h.1
  rw [evals_len] at hl
  rcases h.2 with ⟨h1, h2⟩ | ⟨g, cap', cur, h1, _, _, hnc, hm, _⟩
  · simp only [Value.slice.injEq] at h1
    obtain ⟨_, h3, rfl⟩ := h1
    exact ⟨by omega, by omega, by unfold maxLen; omega, fun hp => by omega⟩
  · simp only [Value.slice.injEq, true_and] at h1
    obtain ⟨rfl, rfl⟩ := h1
    refine ⟨by omega, hnc, hm, fun _ => ⟨g, 0, rfl, fun i hi => ?_⟩⟩
    obtain ⟨v1, v2, v3, v4⟩ := evals_get es i (by omega)
    rw [Nat.zero_add]
    exact ⟨(h.cellAt _ (by omega)).trans v1, (h.cellAt _ (by omega)).trans v2, (h.cellAt _ (by omega)).trans v3, (h.cellAt _ (by omega)).trans v4⟩

theorem infoE0 : (Try.prog.info? 39).map (fun i => (i.zero, i.size, i.bytes)) = some (some (.agg #[.int .i64 0, .int .i64 0, .int .i64 0, .int .i64 0]), 4, 32) := by kernel_rfl
theorem infoE : ∃ i : TypeInfo, Try.prog.info? 39 = some i ∧ i.zero = some (.agg #[.int .i64 0, .int .i64 0, .int .i64 0, .int .i64 0]) ∧ i.size = 4 ∧ i.bytes = 32 := by
  have h := infoE0
  cases e : Try.prog.info? 39 with
  | none => rw [e] at h; cases h
  | some i =>
    rw [e] at h
    simp only [Option.map_some, Option.some.injEq, Prod.mk.injEq] at h
    exact ⟨i, rfl, h.1, h.2.1, h.2.2⟩

theorem owns_slice4 {w : World} {base e : Nat} {v : Value} {n : Nat} {xs : List Value} (h : w.ownsRow base e 4 v n xs) : ∃ ao cap, v = .slice ao n cap := by
  rcases h.2 with ⟨rfl, rfl⟩ | ⟨g, cap, cur, rfl, _⟩
  · exact ⟨none, 0, rfl⟩
  · exact ⟨_, cap, rfl⟩

set_option maxRecDepth 100000 in
set_option maxHeartbeats 1000000 in
/-- slices.Clone: the same edges in a row of the call's own; nil stays nil. -/
theorem clone_calls (ao : Option Addr) (n cap : Nat) (es : List Ed) (w : World) (h : ERow w ao n cap es) (hb : n * 32 ≤ 140737488355328) (hnil : ao = none → n = 0 ∧ cap = 0) :
    Calls Try.prog 21 #[.slice ao n cap] w fun v w' => ∃ ao' cap', v = .returned (.slice ao' n cap') ∧ w'.ownsRow w.heap.size 39 4 (.slice ao' n cap') n (evals es) ∧ Kept w w' := by
  cases ao with
  | none =>
    obtain ⟨rfl, rfl⟩ := hnil rfl
    have he : es = [] := List.eq_nil_of_length_eq_zero h.len.symm
    subst he
    have hq : ∀ w : World, (binOp .eql 22 (.slice none 0 0) (.slice none 0 0)).run Try.prog w = .ok (.bool true) w := fun w => Lib.run_eql_slice_nil w _ _ _ _ _ _ _ Try.underlying22
    go_enter Try.func21, Try.ntmps21
    go_wp2
    go_ret
    exact ⟨_, _, rfl, World.ownsRow_nil _ _ _ _, Kept.refl _⟩
  | some ad =>
    have hl : (evals es).length = n * 4 := by rw [evals_len, ← h.len]
    obtain ⟨i0, hi, hz0, hz1, hz2⟩ := infoE
    have KW : Kept w (w.alloc (Obj.cells #[] 39)) := (Kept.refl w).alloc _
    have O := World.ownsRow_lit (base := w.heap.size) (e := 39) (size := 4) w #[] 0 (Nat.le_refl _) (by unfold maxLen; omega) rfl
    have N := (h.kept KW).news
    have hq : ∀ w : World, (binOp .eql 22 (.slice (some ad) n cap) (.slice none 0 0)).run Try.prog w = .ok (.bool false) w := fun w => Lib.run_eql_slice_nil w _ _ _ _ _ _ _ Try.underlying22
    clear hnil
    go_enter Try.func21, Try.ntmps21
    go_wp2_with (at_builtin; refine wpList_append_own _ rfl _ _ 22 rfl w.heap.size 39 i0 _ 4 32 Try.underlying22 hi hz0 hz1 hz2 rfl (by decide) _ _ _ rfl O ad n cap (evals es) rfl hl N (evals_one es) (by have := h.room; have := h.most; omega) (by omega) (by simp) ?_)
    intro v' w1 hown hgrow _
    have K1 : Kept w w1 := Below.grown KW hgrow KW.size (fun j hj => (O.lt j hj).1)
    obtain ⟨ao', cap', rfl⟩ := owns_slice4 hown
    go_wp2
    go_ret
    exact ⟨_, _, rfl, hown, K1⟩
end Go.Proofs.Ytjbodameaeaaeaa

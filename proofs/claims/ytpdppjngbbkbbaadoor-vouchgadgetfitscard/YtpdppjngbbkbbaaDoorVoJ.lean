/- Rows of edges that the call owns, grown by append. -/
import Derived.Test.YtpdppjngbbkbbaaDoorVoI
import Derived.Laws.AppendOwn
import Derived.Laws.OwnMore
import Derived.OwnWalk
import Derived.WalkSpells
import Derived.Deep.AppendLies
import Derived.Deep.RegionLaw
namespace Go.Proofs.YtpdppjngbbkbbaaDoor
open Go.RowKit

def ecells (e : Ed) : List Value := [.int .i64 e.f, .int .i64 e.t, .int .i64 e.c, .int .i64 e.k]

/-- The cells of a row of edges. -/
def evals : List Ed → List Value
  | [] => []
  | e :: es => ecells e ++ evals es

theorem evals_len (es : List Ed) : (evals es).length = es.length * 4 := by
  induction es with
  | nil => rfl
  | cons e es ih => simp only [evals, ecells, List.length_append, List.length_cons, List.length_nil, ih]; omega

theorem evals_app (es fs : List Ed) : evals (es ++ fs) = evals es ++ evals fs := by
  induction es with
  | nil => rfl
  | cons e es ih => simp only [List.cons_append, evals, ih, List.append_assoc]

theorem evals_get (es : List Ed) : ∀ (i : Nat), i < es.length → (evals es)[i * 4]? = some (.int .i64 (edAt es i).f) ∧ (evals es)[i * 4 + 1]? = some (.int .i64 (edAt es i).t) ∧ (evals es)[i * 4 + 2]? = some (.int .i64 (edAt es i).c) ∧ (evals es)[i * 4 + 3]? = some (.int .i64 (edAt es i).k) := by
  induction es with
  | nil => intro i hi; simp at hi
  | cons e es ih =>
    intro i hi
    match i with
    | 0 => exact ⟨rfl, rfl, rfl, rfl⟩
    | i + 1 =>
      have h := ih i (by simpa using hi)
      have hg : ∀ j, (evals (e :: es))[i * 4 + j + 4]? = (evals es)[i * 4 + j]? := fun j => by
        show (ecells e ++ evals es)[i * 4 + j + 4]? = _
        rw [List.getElem?_append_right (by simp [ecells])]
        simp [ecells]
      have ha : edAt (e :: es) (i + 1) = edAt es i := by simp [edAt]
      rw [ha]
      refine ⟨?_, ?_, ?_, ?_⟩
      · rw [← h.1, show (i + 1) * 4 = i * 4 + 0 + 4 by omega, hg 0]; rfl
      · rw [← h.2.1, show (i + 1) * 4 + 1 = i * 4 + 1 + 4 by omega, hg 1]
      · rw [← h.2.2.1, show (i + 1) * 4 + 2 = i * 4 + 2 + 4 by omega, hg 2]
      · rw [← h.2.2.2, show (i + 1) * 4 + 3 = i * 4 + 3 + 4 by omega, hg 3]

theorem evals_one (es : List Ed) : ∀ u ∈ evals es, u.oneCell' = true := by
  induction es with
  | nil => intro u hu; cases hu
  | cons e es ih =>
    intro u hu
    simp only [evals, ecells, List.mem_append, List.mem_cons, List.not_mem_nil, or_false] at hu
    rcases hu with (rfl | rfl | rfl | rfl) | hu
    · rfl
    · rfl
    · rfl
    · rfl
    · exact ih u hu

theorem ERow.of_owns {w : World} {base e : Nat} {ao : Option Addr} {n cap : Nat} {es : List Ed} (h : w.ownsRow base e 4 (.slice ao n cap) n (evals es)) : ERow w ao n cap es := by
  have hl := h.1
  rw [evals_len] at hl
  rcases h.2 with ⟨h1, h2⟩ | ⟨g, cap', cur, h1, _, _, hnc, hm, _⟩
  · simp only [Value.slice.injEq] at h1
    obtain ⟨_, h3, rfl⟩ := h1
    exact ⟨by omega, by omega, by unfold maxLen; omega, fun hp => by omega⟩
  · simp only [Value.slice.injEq, true_and] at h1
    obtain ⟨rfl, rfl⟩ := h1
    refine ⟨by omega, hnc, hm, fun _ => ⟨g, 0, rfl, fun i hi => ?_⟩⟩
    obtain ⟨v1, v2, v3, v4⟩ := evals_get es i (by omega)
    rw [Nat.zero_add]
    exact ⟨(h.cellAt _ (by omega)).trans v1, (h.cellAt _ (by omega)).trans v2, (h.cellAt _ (by omega)).trans v3, (h.cellAt _ (by omega)).trans v4⟩

theorem infoE0 : (Tryd.prog.info? 86).map (fun i => (i.zero, i.size, i.bytes)) = some (some (.agg #[.int .i64 0, .int .i64 0, .int .i64 0, .int .i64 0]), 4, 32) := by kernel_rfl

theorem infoE : ∃ i : TypeInfo, Tryd.prog.info? 86 = some i ∧ i.zero = some (.agg #[.int .i64 0, .int .i64 0, .int .i64 0, .int .i64 0]) ∧ i.size = 4 ∧ i.bytes = 32 := by
  have h := infoE0
  cases e : Tryd.prog.info? 86 with
  | none => rw [e] at h; cases h
  | some i =>
    rw [e] at h
    simp only [Option.map_some, Option.some.injEq, Prod.mk.injEq] at h
    exact ⟨i, rfl, h.1, h.2.1, h.2.2⟩

theorem owns_slice4 {w : World} {base e : Nat} {v : Value} {n : Nat} {xs : List Value} (h : w.ownsRow base e 4 v n xs) : ∃ ao cap, v = .slice ao n cap := by
  rcases h.2 with ⟨rfl, rfl⟩ | ⟨g, cap, cur, rfl, _⟩
  · exact ⟨none, 0, rfl⟩
  · exact ⟨_, cap, rfl⟩

/-- A net: the number of its nodes, and a row of edges of its own, in blocks from B on. -/
structure NetAt (w : World) (B p : Nat) (nodes : Int) (es : List Ed) : Prop where
  c0 : w.cell? ⟨p, 0, none⟩ = some (.int .i64 nodes)
  c1 : ∃ ao cap, w.cell? ⟨p, 1, none⟩ = some (.slice ao es.length cap) ∧ w.ownsRow B 86 4 (.slice ao es.length cap) es.length (evals es) ∧ some p ≠ (Value.slice ao es.length cap).ownBlock
  z0 : w.frozen? ⟨p, 0, none⟩ = false
  z1 : w.frozen? ⟨p, 1, none⟩ = false
  ge : B ≤ p
  zz : ∀ o, w.frozen? ⟨p, o, none⟩ = false

theorem grown_setCell (W : World) (p : Addr) (v : Value) : W.grownBy (W.setCell p v) (some p.block) :=
  ⟨rfl, rfl, rfl, by simp [World.setCell], fun k _ hk => Below.heap_setCell _ _ _ k (fun e => hk (by rw [e]))⟩

theorem evals_snoc (es : List Ed) (e : Ed) : evals (es ++ [e]) = evals es ++ ecells e := by
  rw [evals_app]; simp [evals]

theorem NetAt.alloc {w : World} {B p : Nat} {nodes : Int} {es : List Ed} (h : NetAt w B p nodes es) (o : Obj) : NetAt (w.alloc o) B p nodes es := by
  obtain ⟨ao, cap, c1, O, hp⟩ := h.c1
  have K : Kept w (w.alloc o) := (Kept.refl w).alloc o
  have lp : p < w.heap.size := lt_cell c1
  exact ⟨K.cell h.c0, ⟨ao, cap, K.cell c1, O.alloc o, hp⟩, (Below.frozen (p := ⟨p, 0, none⟩) K lp).trans h.z0, (Below.frozen (p := ⟨p, 1, none⟩) K lp).trans h.z1, h.ge, fun q => (Below.frozen (p := ⟨p, q, none⟩) K lp).trans (h.zz q)⟩

/-- Behind an append onto the row in the field, and the store into the field. -/
theorem net_grow {wr w1 : World} {B p cap n : Nat} {ao : Option Addr} {nodes : Int} {es : List Ed} {x : Ed} {o : Obj} {v' : Value} (hn : n = es.length)
    (c0 : wr.cell? ⟨p, 0, none⟩ = some (.int .i64 nodes)) (c1 : wr.cell? ⟨p, 1, none⟩ = some (.slice ao n cap)) (hp : some p ≠ (Value.slice ao n cap).ownBlock)
    (z0 : wr.frozen? ⟨p, 0, none⟩ = false) (z1 : wr.frozen? ⟨p, 1, none⟩ = false) (ge : B ≤ p) (zz : ∀ q, wr.frozen? ⟨p, q, none⟩ = false)
    (own : w1.ownsRow B 86 4 v' (n + 1) (evals es ++ ecells x)) (grow : (wr.alloc o).grownBy w1 (Value.slice ao n cap).ownBlock) (ha : v'.ownBlock = (Value.slice ao n cap).ownBlock ∨ v'.ownBlock = some (wr.heap.size + 1)) :
    ∃ ao' cap', v' = .slice ao' (n + 1) cap' ∧ w1.cell? ⟨p, 1, none⟩ = some (.slice ao n cap) ∧ w1.frozen? ⟨p, 1, none⟩ = false ∧ NetAt (w1.setCell ⟨p, 1, none⟩ v') B p nodes (es ++ [x]) ∧ (w1.setCell ⟨p, 1, none⟩ v').cell? ⟨p, 1, none⟩ = some (.slice ao' (n + 1) cap') := by
  have lp := lt_cell c1
  simp only at lp
  have KA : Kept wr (wr.alloc o) := (Kept.refl wr).alloc o
  have a0 := KA.cell c0
  have a1 := KA.cell c1
  have b0 : w1.cell? ⟨p, 0, none⟩ = some (.int .i64 nodes) := grow.cell a0 hp
  have b1 : w1.cell? ⟨p, 1, none⟩ = some (.slice ao n cap) := grow.cell a1 hp
  have y0 : w1.frozen? ⟨p, 0, none⟩ = false := (grow.frozen_far ⟨p, 0, none⟩ (by simp; omega) hp).trans ((Below.frozen (p := ⟨p, 0, none⟩) KA lp).trans z0)
  have y1 : w1.frozen? ⟨p, 1, none⟩ = false := (grow.frozen_far ⟨p, 1, none⟩ (by simp; omega) hp).trans ((Below.frozen (p := ⟨p, 1, none⟩) KA lp).trans z1)
  obtain ⟨ao', cap', rfl⟩ := owns_slice4 own
  have hp' : some p ≠ (Value.slice ao' (n + 1) cap').ownBlock := by
    rcases ha with t | t
    · rw [t]; exact hp
    · rw [t]; simp; omega
  have own2 := own.kept (grown_setCell w1 ⟨p, 1, none⟩ (.slice ao' (n + 1) cap')) (.inr (Ne.symm hp'))
  rw [← evals_snoc] at own2
  have e1 := World.cell?_setCell_same w1 ⟨p, 1, none⟩ (.slice ao' (n + 1) cap') b1
  have hl : (es ++ [x]).length = n + 1 := by simp [hn]
  refine ⟨ao', cap', rfl, b1, y1, ⟨?_, ⟨ao', cap', ?_, ?_, ?_⟩, ?_, ?_, ge, fun q => ?_⟩, e1⟩
  · rw [World.cell?_setCell_other _ _ _ _ (by simp)]; exact b0
  · rw [hl]; exact e1
  · rw [hl]; exact own2
  · rw [hl]; exact hp'
  · simpa [go_sem] using y0
  · simpa [go_sem] using y1
  · simpa [go_sem] using (grow.frozen_far ⟨p, q, none⟩ (by simp; omega) hp).trans ((Below.frozen (p := ⟨p, q, none⟩) KA lp).trans (zz q))

theorem cell_new4 (w : World) (T : TypeId) (e : Ed) : ∀ j u', (ecells e)[j]? = some u' → (w.alloc (Obj.cells #[.int .i64 e.f, .int .i64 e.t, .int .i64 e.c, .int .i64 e.k] T)).cell? ((⟨w.heap.size, 0, none⟩ : Addr).add j) = some u' := by
  intro j u' h
  match j, h with
  | 0, h => simp [ecells] at h; subst h; simp [go_sem, Addr.add]
  | 1, h => simp [ecells] at h; subst h; simp [go_sem, Addr.add]
  | 2, h => simp [ecells] at h; subst h; simp [go_sem, Addr.add]
  | 3, h => simp [ecells] at h; subst h; simp [go_sem, Addr.add]
  | j + 4, h => simp [ecells] at h

theorem ecells_one (e : Ed) : ∀ u ∈ ecells e, u.oneCell' = true := by
  intro u hu
  simp only [ecells, List.mem_cons, List.not_mem_nil, or_false] at hu
  rcases hu with rfl | rfl | rfl | rfl <;> rfl

end Go.Proofs.YtpdppjngbbkbbaaDoor

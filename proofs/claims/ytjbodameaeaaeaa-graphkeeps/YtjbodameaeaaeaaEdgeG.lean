/- A row of edges in a struct's field, grown by append; the document's Reverse. -/
import Derived.Test.YtjbodameaeaaeaaEdgeF
import Derived.Deep.AppendLies
namespace Go.Proofs.Ytjbodameaeaaeaa
open Go.RowKit

theorem grown_setCell (W : World) (p : Addr) (v : Value) : W.grownBy (W.setCell p v) (some p.block) :=
  ⟨rfl, rfl, rfl, by simp [World.setCell], fun k _ hk => Below.heap_setCell _ _ _ k (fun e => hk (by rw [e]))⟩

theorem evals_snoc (es : List Ed) (e : Ed) : evals (es ++ [e]) = evals es ++ ecells e := by
  rw [evals_app]; simp [evals]

theorem NetAt.alloc {w : World} {B p : Nat} {nodes : Int} {es : List Ed} (h : NetAt w B p nodes es) (o : Obj) : NetAt (w.alloc o) B p nodes es := by
  obtain ⟨ao, cap, c1, O, hp⟩ := h.c1
  have K : Kept w (w.alloc o) := (Kept.refl w).alloc o
  have lp : p < w.heap.size := lt_cell c1
  exact ⟨K.cell h.c0, ⟨ao, cap, K.cell c1, O.alloc o, hp⟩, (Below.frozen (p := ⟨p, 0, none⟩) K lp).trans h.z0, (Below.frozen (p := ⟨p, 1, none⟩) K lp).trans h.z1, h.ge, fun q => (Below.frozen (p := ⟨p, q, none⟩) K lp).trans (h.zz q)⟩

/-- Behind an append onto the row in the field, and the store into the field. -/
theorem net_grow {wr w1 : World} {B p cap n : Nat} {ao : Option Addr} {nodes : Int} {es : List Ed} {x : Ed} {o : Obj} {v' : Value} (hn : n = es.length)
    (c0 : wr.cell? ⟨p, 0, none⟩ = some (.int .i64 nodes)) (c1 : wr.cell? ⟨p, 1, none⟩ = some (.slice ao n cap)) (hp : some p ≠ (Value.slice ao n cap).ownBlock)
    (z0 : wr.frozen? ⟨p, 0, none⟩ = false) (z1 : wr.frozen? ⟨p, 1, none⟩ = false) (ge : B ≤ p) (zz : ∀ q, wr.frozen? ⟨p, q, none⟩ = false)
    (own : w1.ownsRow B 39 4 v' (n + 1) (evals es ++ ecells x)) (grow : (wr.alloc o).grownBy w1 (Value.slice ao n cap).ownBlock) (ha : v'.ownBlock = (Value.slice ao n cap).ownBlock ∨ v'.ownBlock = some (wr.heap.size + 1)) :
    ∃ ao' cap', v' = .slice ao' (n + 1) cap' ∧ w1.cell? ⟨p, 1, none⟩ = some (.slice ao n cap) ∧ w1.frozen? ⟨p, 1, none⟩ = false ∧ NetAt (w1.setCell ⟨p, 1, none⟩ v') B p nodes (es ++ [x]) ∧ (w1.setCell ⟨p, 1, none⟩ v').cell? ⟨p, 1, none⟩ = some (.slice ao' (n + 1) cap') := by
  have lp := lt_cell c1
  simp only at lp
  have KA : Kept wr (wr.alloc o) := (Kept.refl wr).alloc o
  have a0 := KA.cell c0
  have a1 := KA.cell c1
  have b0 : w1.cell? ⟨p, 0, none⟩ = some (.int .i64 nodes) := grow.cell a0 hp
  have b1 : w1.cell? ⟨p, 1, none⟩ = some (.slice ao n cap) := grow.cell a1 hp
  have y0 : w1.frozen? ⟨p, 0, none⟩ = false := (grow.frozen_far ⟨p, 0, none⟩ (by simp; omega) hp).trans ((Below.frozen (p := ⟨p, 0, none⟩) KA lp).trans z0)
  have y1 : w1.frozen? ⟨p, 1, none⟩ = false := (grow.frozen_far ⟨p, 1, none⟩ (by simp; omega) hp).trans ((Below.frozen (p := ⟨p, 1, none⟩) KA lp).trans z1)
  obtain ⟨ao', cap', rfl⟩ := owns_slice4 own
  have hp' : some p ≠ (Value.slice ao' (n + 1) cap').ownBlock := by
    rcases ha with t | t
    · rw [t]; exact hp
    · rw [t]; simp; omega
  have own2 := own.kept (grown_setCell w1 ⟨p, 1, none⟩ (.slice ao' (n + 1) cap')) (.inr (Ne.symm hp'))
  rw [← evals_snoc] at own2
  have e1 := World.cell?_setCell_same w1 ⟨p, 1, none⟩ (.slice ao' (n + 1) cap') b1
  have hl : (es ++ [x]).length = n + 1 := by simp [hn]
  refine ⟨ao', cap', rfl, b1, y1, ⟨?_, ⟨ao', cap', ?_, ?_, ?_⟩, ?_, ?_, ge, fun q => ?_⟩, e1⟩
  · rw [World.cell?_setCell_other _ _ _ _ (by simp)]; exact b0
  · rw [hl]; exact e1
  · rw [hl]; exact own2
  · rw [hl]; exact hp'
  · simpa [go_sem] using y0
  · simpa [go_sem] using y1
  · simpa [go_sem] using (grow.frozen_far ⟨p, q, none⟩ (by simp; omega) hp).trans ((Below.frozen (p := ⟨p, q, none⟩) KA lp).trans (zz q))

theorem cell_new4 (w : World) (T : TypeId) (e : Ed) : ∀ j u', (ecells e)[j]? = some u' → (w.alloc (Obj.cells #[.int .i64 e.f, .int .i64 e.t, .int .i64 e.c, .int .i64 e.k] T)).cell? ((⟨w.heap.size, 0, none⟩ : Addr).add j) = some u' := by
  intro j u' h
  match j, h with
  | 0, h => simp [ecells] at h; subst h; simp [go_sem, Addr.add]
  | 1, h => simp [ecells] at h; subst h; simp [go_sem, Addr.add]
  | 2, h => simp [ecells] at h; subst h; simp [go_sem, Addr.add]
  | 3, h => simp [ecells] at h; subst h; simp [go_sem, Addr.add]
  | j + 4, h => simp [ecells] at h
theorem ecells_one (e : Ed) : ∀ u ∈ ecells e, u.oneCell' = true := by
  intro u hu
  simp only [ecells, List.mem_cons, List.not_mem_nil, or_false] at hu
  rcases hu with rfl | rfl | rfl | rfl <;> rfl

theorem take_turn (es : List Ed) (k : Nat) (hk : k < es.length) : (es.take (k + 1)).map turn = (es.take k).map turn ++ [turn (edAt es k)] := by
  have e1 : edAt es k = es[k] := by simp [edAt, List.getD, hk]
  rw [List.take_succ_eq_append_getElem hk, List.map_append, e1]
  rfl

set_option maxRecDepth 100000 in
set_option maxHeartbeats 2000000 in
theorem revR_calls (nodes : Int) (ao : Option Addr) (n cap : Nat) (es : List Ed) (w : World) (h : ERow w ao n cap es) (hb : n * 32 ≤ 140737488355328) :
    Calls Try.prog 11 #[.agg #[.int .i64 nodes, .slice ao n cap]] w fun v w' => ∃ ao' cap', v = .returned (.agg #[.int .i64 nodes, .slice ao' n cap']) ∧ w'.ownsRow w.heap.size 39 4 (.slice ao' n cap') n (evals (es.map turn)) ∧ Kept w w' := by
  have hl1 : n ≤ es.length := Nat.le_of_eq h.len
  have hl2 : es.length ≤ n := Nat.le_of_eq h.len.symm
  have hr := h.room
  have hm := h.most
  unfold maxLen at hm
  obtain ⟨i0, hi, hz0, hz1, hz2⟩ := infoE
  have KG : Kept w ((w.alloc (Obj.cells #[.int .i64 nodes, .slice ao n cap] 24)).alloc (Obj.cells #[.int .i64 0, .slice none 0 0] 24)) := ((Kept.refl w).alloc _).alloc _
  have g0 : ((w.alloc (Obj.cells #[.int .i64 nodes, .slice ao n cap] 24)).alloc (Obj.cells #[.int .i64 0, .slice none 0 0] 24)).cell? ⟨w.heap.size, 0, none⟩ = some (.int .i64 nodes) := by simp [go_sem]
  have g1 : ((w.alloc (Obj.cells #[.int .i64 nodes, .slice ao n cap] 24)).alloc (Obj.cells #[.int .i64 0, .slice none 0 0] 24)).cell? ⟨w.heap.size, 1, none⟩ = some (.slice ao n cap) := by simp [go_sem]
  have f0 : ((w.alloc (Obj.cells #[.int .i64 nodes, .slice ao n cap] 24)).alloc (Obj.cells #[.int .i64 0, .slice none 0 0] 24)).cell? ⟨w.heap.size + 1, 0, none⟩ = some (.int .i64 0) := by simp [go_sem]
  have f1 : ((w.alloc (Obj.cells #[.int .i64 nodes, .slice ao n cap] 24)).alloc (Obj.cells #[.int .i64 0, .slice none 0 0] 24)).cell? ⟨w.heap.size + 1, 1, none⟩ = some (.slice none 0 0) := by simp [go_sem]
  have f2 : ((w.alloc (Obj.cells #[.int .i64 nodes, .slice ao n cap] 24)).alloc (Obj.cells #[.int .i64 0, .slice none 0 0] 24)).frozen? ⟨w.heap.size + 1, 0, none⟩ = false := by simp [go_sem]
  have f3 : ((w.alloc (Obj.cells #[.int .i64 nodes, .slice ao n cap] 24)).alloc (Obj.cells #[.int .i64 0, .slice none 0 0] 24)).frozen? ⟨w.heap.size + 1, 1, none⟩ = false := by simp [go_sem]
  have hz : ((w.alloc (Obj.cells #[.int .i64 nodes, .slice ao n cap] 24)).alloc (Obj.cells #[.int .i64 0, .slice none 0 0] 24)).heap.size = w.heap.size + 2 := by simp
  go_enter Try.func11, Try.ntmps11
  go_wp2_with fail
  generalize (w.alloc (Obj.cells #[.int .i64 nodes, .slice ao n cap] 24)).alloc (Obj.cells #[.int .i64 0, .slice none 0 0] 24) = W1 at KG g0 g1 f0 f1 f2 f3 hz ⊢
  have HR := hid_of (h.kept KG)
  have N0 : NetAt (W1.alloc (Obj.cells #[.int .i64 nodes, .slice none 0 0] 24)) W1.heap.size (w.heap.size + 2) nodes [] := by
    rw [← hz]
    exact ⟨by simp [go_sem], ⟨none, 0, by simp [go_sem], World.ownsRow_nil _ _ _ _, by simp [Value.ownBlock]⟩, by simp [go_sem], by simp [go_sem], Nat.le_refl _, fun q => by simp [go_sem]⟩
  have HZ := hid_of hz
  clear h hz
  go_loopw [4] (fun i wr => ∃ (k : Nat), k ≤ n ∧ i = .int .i64 k ∧ NetAt wr W1.heap.size (w.heap.size + 2) nodes ((es.take k).map turn) ∧ Kept W1 wr) (fun i _ => n - (intOf i).toNat)
  case atStart => exact ⟨0, by omega, rfl, N0, (Kept.refl _).alloc _⟩
  case round =>
    obtain ⟨k, hk, rfl, R, K⟩ := hrel
    clear N0
    have p1 := K.cell g1
    by_cases hgo : (k : Int) < (n : Int)
    · obtain ⟨b, off, rfl, hc⟩ := HR.out.cell (by omega)
      obtain ⟨c1, c2, c3, c4⟩ := hc k (by omega)
      have d1 := K.cell c1
      have d2 := K.cell c2
      have d3 := K.cell c3
      have d4 := K.cell c4
      clear hc c1 c2 c3 c4
      have TT := take_turn es k (by omega)
      have hlen : ((es.take k).map turn).length = k := by simp; omega
      have HL' : Hid (∃ L', (es.take (k + 1)).map turn = L') := ⟨_, rfl⟩
      obtain ⟨L', hL'⟩ := HL'.out
      have EL' := hid_of hL'
      rw [hL'] at TT
      clear hL' HL'
      generalize (es.take k).map turn = L at TT hlen R
      generalize edAt es k = ed at d1 d2 d3 d4 TT
      obtain ⟨ef, et, ec, ek⟩ := ed
      simp only at d1 d2 d3 d4
      have R1 := R.alloc (Obj.cells #[.int .i64 ef, .int .i64 et, .int .i64 ec, .int .i64 ek] 39)
      have KE := K.alloc (Obj.cells #[.int .i64 ef, .int .i64 et, .int .i64 ec, .int .i64 ek] 39)
      obtain ⟨bo, cp, m1, m2, m3⟩ := R1.c1
      obtain ⟨bo', cp', m1', _, _⟩ := R.c1
      have m0 := R1.c0
      have m4 := R1.z0
      have m5 := R1.z1
      rw [hlen] at m1 m2 m3
      have lp : w.heap.size + 2 < wr.heap.size := lt_cell m1'
      have hsz : (wr.alloc (Obj.cells #[.int .i64 ef, .int .i64 et, .int .i64 ec, .int .i64 ek] 39)).heap.size = wr.heap.size + 1 := by simp
      have NW := cell_new4 (wr.alloc (Obj.cells #[.int .i64 ef, .int .i64 et, .int .i64 ec, .int .i64 ek] 39)) 39 ⟨et, ef, ec, ek⟩
      rw [hsz] at NW
      have bB : W1.heap.size ≤ wr.heap.size := K.size
      have HN := hid_of NW
      have HM := hid_of (m2.alloc (Obj.cells #[.int .i64 et, .int .i64 ef, .int .i64 ec, .int .i64 ek] 39))
      clear NW
      go_wp2_with (at_builtin; refine wpList_append_own_at _ rfl _ _ 22 rfl W1.heap.size 39 i0 _ 4 32 Try.underlying22 hi hz0 hz1 hz2 rfl (by decide) _ _ _ rfl HM.out ⟨wr.heap.size + 1, 0, none⟩ 1 1 (ecells ⟨et, ef, ec, ek⟩) rfl rfl HN.out (ecells_one _) (by unfold maxLen; omega) (by omega) (by simp; omega) ?_)
      intro v' w1 own grow _ ha
      obtain ⟨ao', cap', rfl, q1, q2, q3, q4⟩ := net_grow (x := ⟨et, ef, ec, ek⟩) hlen.symm m0 m1 m3 m4 m5 R1.ge R1.zz own grow (by rw [hsz]; simpa using ha)
      have e : turn ⟨ef, et, ec, ek⟩ = ⟨et, ef, ec, ek⟩ := rfl
      rw [e] at TT
      rw [← TT] at q3
      have KN := hid_of ((Below.grown (KE.alloc _) grow (KE.alloc _).size (fun j hj => (m2.lt j hj).1)).setCell (p := ⟨w.heap.size + 2, 1, none⟩) (by have := HZ.out; simp only; omega) (.slice ao' (k + 1) cap'))
      have Q3 : Hid (NetAt (w1.setCell ⟨w.heap.size + 2, 1, none⟩ (.slice ao' (k + 1) cap')) W1.heap.size (w.heap.size + 2) nodes ((es.take (k + 1)).map turn)) := by rw [EL'.out]; exact q3
      clear own grow ha HN HM m0 m1 m2 m3 m4 m5 R1 KE d1 d2 d3 d4 R m1' q3 TT e
      go_wp2_with fail
      go_roundw
      case rel => exact ⟨k + 1, by omega, by go_num, Q3.out, KN.out⟩
      case measure => simp [intOf]; omega
    · obtain rfl : k = n := by omega
      have hall : es.take k = es := List.take_of_length_le hl2
      rw [hall] at R
      obtain ⟨bo, cp, m1, m2, m3⟩ := R.c1
      have m0 := R.c0
      have hlen : (es.map turn).length = k := by simp; omega
      rw [hlen] at m1 m2 m3
      have hlt : w.heap.size + 1 < W1.heap.size := by have := HZ.out; omega
      have s0 := K.cell f0
      have s1 := K.cell f1
      have s2 := (Below.frozen (p := ⟨w.heap.size + 1, 0, none⟩) K (lt_cell f0)).trans f2
      have s3 := (Below.frozen (p := ⟨w.heap.size + 1, 1, none⟩) K (lt_cell f1)).trans f3
      obtain ⟨t1, t2, t3, t4⟩ := box2w s0 s1 (.int .i64 nodes) (.slice bo k cp)
      have O2 := ownsRow_setCell_below (ownsRow_setCell_below m2 (a := ⟨w.heap.size + 1, 0, none⟩) hlt (.int .i64 nodes)) (a := ⟨w.heap.size + 1, 1, none⟩) hlt (.slice bo k cp)
      have KK := ((KG.trans K).setCell (p := ⟨w.heap.size + 1, 0, none⟩) (by simp) (.int .i64 nodes)).setCell (p := ⟨w.heap.size + 1, 1, none⟩) (by simp) (.slice bo k cp)
      clear R HR
      go_wp2
      refine bodyPost_ret (v := .agg #[.int .i64 nodes, .slice bo k cp]) (by simp [results, Try.results11, go_sem, t3, t4]) rfl ⟨bo, cp, rfl, O2.mono (by have := HZ.out; omega), KK⟩
end Go.Proofs.Ytjbodameaeaaeaa

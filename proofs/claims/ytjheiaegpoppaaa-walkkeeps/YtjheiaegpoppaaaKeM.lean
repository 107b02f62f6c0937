/- One text of EdgeX, EdgeY, EdgeZ, PaK, PaL, PaM, PaN, KeA, KeB, WalkKeepsWalk, KeC, WalkKeeps. -/
import Derived.Test.YtjheiaegpoppaaaEdgeW
import Derived.Deep.AppendLies
import Derived.Laws.StructEq
import Derived.Deep.RegionLaw
import Derived.Test.YtjheiaegpoppaaaPaJ
import Derived.Test.YtjheiaegpoppaaaWkH
import Derived.Test.YtjheiaegpoppaaaWkL
import Derived.Test.YtjheiaegpoppaaaPaH
import Derived.Test.YtjheiaegpoppaaaFrame
import Derived.OneCell
import Derived.Deep.DeepCutAuto
import Derived.Deep.CutBlock
import Derived.Deep.DeepAppendWide
import Derived.Test.YtjheiaegpoppaaaWkJ
import Derived.Test.YtjheiaegpoppaaaWkU
import Derived.Test.YtjheiaegpoppaaaWkT
import Derived.Test.YtjheiaegpoppaaaRightW
import Derived.Test.YtjheiaegpoppaaaGraphOpen
namespace Go.Proofs.Ytjheiaegpoppaaa
open Go.RowKit

/-- A net: the number of its nodes, and a row of edges of its own, in blocks from B on. -/
structure NetAt (w : World) (B p : Nat) (nodes : Int) (es : List Ed) : Prop where
  c0 : w.cell? ⟨p, 0, none⟩ = some (.int .i64 nodes)
  c1 : ∃ ao cap, w.cell? ⟨p, 1, none⟩ = some (.slice ao es.length cap) ∧ w.ownsRow B 42 4 (.slice ao es.length cap) es.length (evals es) ∧ some p ≠ (Value.slice ao es.length cap).ownBlock
  z0 : w.frozen? ⟨p, 0, none⟩ = false
  z1 : w.frozen? ⟨p, 1, none⟩ = false
  ge : B ≤ p
  zz : ∀ o, w.frozen? ⟨p, o, none⟩ = false


theorem grown_setCell (W : World) (p : Addr) (v : Value) : W.grownBy (W.setCell p v) (some p.block) :=
  ⟨rfl, rfl, rfl, by simp [World.setCell], fun k _ hk => Below.heap_setCell _ _ _ k (fun e => hk (by rw [e]))⟩

theorem evals_snoc (es : List Ed) (e : Ed) : evals (es ++ [e]) = evals es ++ ecells e := by
  rw [evals_app]; simp [evals]

theorem NetAt.alloc {w : World} {B p : Nat} {nodes : Int} {es : List Ed} (h : NetAt w B p nodes es) (o : Obj) : NetAt (w.alloc o) B p nodes es := by
  obtain ⟨ao, cap, c1, O, hp⟩ := h.c1
  have K : Kept w (w.alloc o) := (Kept.refl w).alloc o
  have lp : p < w.heap.size := lt_cell c1
  exact ⟨K.cell h.c0, ⟨ao, cap, K.cell c1, O.alloc o, hp⟩, (Below.frozen (p := ⟨p, 0, none⟩) K lp).trans h.z0, (Below.frozen (p := ⟨p, 1, none⟩) K lp).trans h.z1, h.ge, fun q => (Below.frozen (p := ⟨p, q, none⟩) K lp).trans (h.zz q)⟩

/-- Behind an append onto the row in the field, and the store into the field. -/
theorem net_grow {wr w1 : World} {B p cap n : Nat} {ao : Option Addr} {nodes : Int} {es : List Ed} {x : Ed} {o : Obj} {v' : Value} (hn : n = es.length)
    (c0 : wr.cell? ⟨p, 0, none⟩ = some (.int .i64 nodes)) (c1 : wr.cell? ⟨p, 1, none⟩ = some (.slice ao n cap)) (hp : some p ≠ (Value.slice ao n cap).ownBlock)
    (z0 : wr.frozen? ⟨p, 0, none⟩ = false) (z1 : wr.frozen? ⟨p, 1, none⟩ = false) (ge : B ≤ p) (zz : ∀ q, wr.frozen? ⟨p, q, none⟩ = false)
    (own : w1.ownsRow B 42 4 v' (n + 1) (evals es ++ ecells x)) (grow : (wr.alloc o).grownBy w1 (Value.slice ao n cap).ownBlock) (ha : v'.ownBlock = (Value.slice ao n cap).ownBlock ∨ v'.ownBlock = some (wr.heap.size + 1)) :
    ∃ ao' cap', v' = .slice ao' (n + 1) cap' ∧ w1.cell? ⟨p, 1, none⟩ = some (.slice ao n cap) ∧ w1.frozen? ⟨p, 1, none⟩ = false ∧ NetAt (w1.setCell ⟨p, 1, none⟩ v') B p nodes (es ++ [x]) ∧ (w1.setCell ⟨p, 1, none⟩ v').cell? ⟨p, 1, none⟩ = some (.slice ao' (n + 1) cap') := by
  have lp := lt_cell c1
  simp only at lp
  have KA : Kept wr (wr.alloc o) := (Kept.refl wr).alloc o
  have a0 := KA.cell c0
  have a1 := KA.cell c1
  have b0 : w1.cell? ⟨p, 0, none⟩ = some (.int .i64 nodes) := grow.cell a0 hp
  have b1 : w1.cell? ⟨p, 1, none⟩ = some (.slice ao n cap) := grow.cell a1 hp
  have y0 : w1.frozen? ⟨p, 0, none⟩ = false := (grow.frozen_far ⟨p, 0, none⟩ (by simp; omega) hp).trans ((Below.frozen (p := ⟨p, 0, none⟩) KA lp).trans z0)
  have y1 : w1.frozen? ⟨p, 1, none⟩ = false := (grow.frozen_far ⟨p, 1, none⟩ (by simp; omega) hp).trans ((Below.frozen (p := ⟨p, 1, none⟩) KA lp).trans z1)
  obtain ⟨ao', cap', rfl⟩ := owns_slice4 own
  have hp' : some p ≠ (Value.slice ao' (n + 1) cap').ownBlock := by
    rcases ha with t | t
    · rw [t]; exact hp
    · rw [t]; simp; omega
  have own2 := own.kept (grown_setCell w1 ⟨p, 1, none⟩ (.slice ao' (n + 1) cap')) (.inr (Ne.symm hp'))
  rw [← evals_snoc] at own2
  have e1 := World.cell?_setCell_same w1 ⟨p, 1, none⟩ (.slice ao' (n + 1) cap') b1
  have hl : (es ++ [x]).length = n + 1 := by simp [hn]
  refine ⟨ao', cap', rfl, b1, y1, ⟨?_, ⟨ao', cap', ?_, ?_, ?_⟩, ?_, ?_, ge, fun q => ?_⟩, e1⟩
  · rw [World.cell?_setCell_other _ _ _ _ (by simp)]; exact b0
  · rw [hl]; exact e1
  · rw [hl]; exact own2
  · rw [hl]; exact hp'
  · simpa [go_sem] using y0
  · simpa [go_sem] using y1
  · simpa [go_sem] using (grow.frozen_far ⟨p, q, none⟩ (by simp; omega) hp).trans ((Below.frozen (p := ⟨p, q, none⟩) KA lp).trans (zz q))

theorem cell_new4 (w : World) (T : TypeId) (e : Ed) : ∀ j u', (ecells e)[j]? = some u' → (w.alloc (Obj.cells #[.int .i64 e.f, .int .i64 e.t, .int .i64 e.c, .int .i64 e.k] T)).cell? ((⟨w.heap.size, 0, none⟩ : Addr).add j) = some u' := by
  intro j u' h
  match j, h with
  | 0, h => simp [ecells] at h; subst h; simp [go_sem, Addr.add]
  | 1, h => simp [ecells] at h; subst h; simp [go_sem, Addr.add]
  | 2, h => simp [ecells] at h; subst h; simp [go_sem, Addr.add]
  | 3, h => simp [ecells] at h; subst h; simp [go_sem, Addr.add]
  | j + 4, h => simp [ecells] at h
theorem ecells_one (e : Ed) : ∀ u ∈ ecells e, u.oneCell' = true := by
  intro u hu
  simp only [ecells, List.mem_cons, List.not_mem_nil, or_false] at hu
  rcases hu with rfl | rfl | rfl | rfl <;> rfl

theorem take_turn (es : List Ed) (k : Nat) (hk : k < es.length) : (es.take (k + 1)).map turn = (es.take k).map turn ++ [turn (edAt es k)] := by
  have e1 : edAt es k = es[k] := by simp [edAt, List.getD, hk]
  rw [List.take_succ_eq_append_getElem hk, List.map_append, e1]
  rfl

set_option maxRecDepth 100000 in
set_option maxHeartbeats 2000000 in
theorem revR_calls (nodes : Int) (ao : Option Addr) (n cap : Nat) (es : List Ed) (w : World) (h : ERow w ao n cap es) (hb : n * 32 ≤ 140737488355328) :
    Calls Try.prog 22 #[.agg #[.int .i64 nodes, .slice ao n cap]] w fun v w' => ∃ ao' cap', v = .returned (.agg #[.int .i64 nodes, .slice ao' n cap']) ∧ w'.ownsRow w.heap.size 42 4 (.slice ao' n cap') n (evals (es.map turn)) ∧ Kept w w' := by
  have hl1 : n ≤ es.length := Nat.le_of_eq h.len
  have hl2 : es.length ≤ n := Nat.le_of_eq h.len.symm
  have hr := h.room
  have hm := h.most
  unfold maxLen at hm
  obtain ⟨i0, hi, hz0, hz1, hz2⟩ := infoE
  have KG : Kept w ((w.alloc (Obj.cells #[.int .i64 nodes, .slice ao n cap] 24)).alloc (Obj.cells #[.int .i64 0, .slice none 0 0] 24)) := ((Kept.refl w).alloc _).alloc _
  have g0 : ((w.alloc (Obj.cells #[.int .i64 nodes, .slice ao n cap] 24)).alloc (Obj.cells #[.int .i64 0, .slice none 0 0] 24)).cell? ⟨w.heap.size, 0, none⟩ = some (.int .i64 nodes) := by simp [go_sem]
  have g1 : ((w.alloc (Obj.cells #[.int .i64 nodes, .slice ao n cap] 24)).alloc (Obj.cells #[.int .i64 0, .slice none 0 0] 24)).cell? ⟨w.heap.size, 1, none⟩ = some (.slice ao n cap) := by simp [go_sem]
  have f0 : ((w.alloc (Obj.cells #[.int .i64 nodes, .slice ao n cap] 24)).alloc (Obj.cells #[.int .i64 0, .slice none 0 0] 24)).cell? ⟨w.heap.size + 1, 0, none⟩ = some (.int .i64 0) := by simp [go_sem]
  have f1 : ((w.alloc (Obj.cells #[.int .i64 nodes, .slice ao n cap] 24)).alloc (Obj.cells #[.int .i64 0, .slice none 0 0] 24)).cell? ⟨w.heap.size + 1, 1, none⟩ = some (.slice none 0 0) := by simp [go_sem]
  have f2 : ((w.alloc (Obj.cells #[.int .i64 nodes, .slice ao n cap] 24)).alloc (Obj.cells #[.int .i64 0, .slice none 0 0] 24)).frozen? ⟨w.heap.size + 1, 0, none⟩ = false := by simp [go_sem]
  have f3 : ((w.alloc (Obj.cells #[.int .i64 nodes, .slice ao n cap] 24)).alloc (Obj.cells #[.int .i64 0, .slice none 0 0] 24)).frozen? ⟨w.heap.size + 1, 1, none⟩ = false := by simp [go_sem]
  have hz : ((w.alloc (Obj.cells #[.int .i64 nodes, .slice ao n cap] 24)).alloc (Obj.cells #[.int .i64 0, .slice none 0 0] 24)).heap.size = w.heap.size + 2 := by simp
  go_enter Try.func22, Try.ntmps22
  go_wp2_with fail
  generalize (w.alloc (Obj.cells #[.int .i64 nodes, .slice ao n cap] 24)).alloc (Obj.cells #[.int .i64 0, .slice none 0 0] 24) = W1 at KG g0 g1 f0 f1 f2 f3 hz ⊢
  have HR := hid_of (h.kept KG)
  have N0 : NetAt (W1.alloc (Obj.cells #[.int .i64 nodes, .slice none 0 0] 24)) W1.heap.size (w.heap.size + 2) nodes [] := by
    rw [← hz]
    exact ⟨by simp [go_sem], ⟨none, 0, by simp [go_sem], World.ownsRow_nil _ _ _ _, by simp [Value.ownBlock]⟩, by simp [go_sem], by simp [go_sem], Nat.le_refl _, fun q => by simp [go_sem]⟩
  have HZ := hid_of hz
  clear h hz
  go_loopw [4] (fun i wr => ∃ (k : Nat), k ≤ n ∧ i = .int .i64 k ∧ NetAt wr W1.heap.size (w.heap.size + 2) nodes ((es.take k).map turn) ∧ Kept W1 wr) (fun i _ => n - (intOf i).toNat)
  case atStart => exact ⟨0, by omega, rfl, N0, (Kept.refl _).alloc _⟩
  case round =>
    obtain ⟨k, hk, rfl, R, K⟩ := hrel
    clear N0
    have p1 := K.cell g1
    by_cases hgo : (k : Int) < (n : Int)
    · obtain ⟨b, off, rfl, hc⟩ := HR.out.cell (by omega)
      obtain ⟨c1, c2, c3, c4⟩ := hc k (by omega)
      have d1 := K.cell c1
      have d2 := K.cell c2
      have d3 := K.cell c3
      have d4 := K.cell c4
      clear hc c1 c2 c3 c4
      have TT := take_turn es k (by omega)
      have hlen : ((es.take k).map turn).length = k := by simp; omega
      have HL' : Hid (∃ L', (es.take (k + 1)).map turn = L') := ⟨_, rfl⟩
      obtain ⟨L', hL'⟩ := HL'.out
      have EL' := hid_of hL'
      rw [hL'] at TT
      clear hL' HL'
      generalize (es.take k).map turn = L at TT hlen R
      generalize edAt es k = ed at d1 d2 d3 d4 TT
      obtain ⟨ef, et, ec, ek⟩ := ed
      simp only at d1 d2 d3 d4
      have R1 := R.alloc (Obj.cells #[.int .i64 ef, .int .i64 et, .int .i64 ec, .int .i64 ek] 42)
      have KE := K.alloc (Obj.cells #[.int .i64 ef, .int .i64 et, .int .i64 ec, .int .i64 ek] 42)
      obtain ⟨bo, cp, m1, m2, m3⟩ := R1.c1
      obtain ⟨bo', cp', m1', _, _⟩ := R.c1
      have m0 := R1.c0
      have m4 := R1.z0
      have m5 := R1.z1
      rw [hlen] at m1 m2 m3
      have lp : w.heap.size + 2 < wr.heap.size := lt_cell m1'
      have hsz : (wr.alloc (Obj.cells #[.int .i64 ef, .int .i64 et, .int .i64 ec, .int .i64 ek] 42)).heap.size = wr.heap.size + 1 := by simp
      have NW := cell_new4 (wr.alloc (Obj.cells #[.int .i64 ef, .int .i64 et, .int .i64 ec, .int .i64 ek] 42)) 42 ⟨et, ef, ec, ek⟩
      rw [hsz] at NW
      have bB : W1.heap.size ≤ wr.heap.size := K.size
      have HN := hid_of NW
      have HM := hid_of (m2.alloc (Obj.cells #[.int .i64 et, .int .i64 ef, .int .i64 ec, .int .i64 ek] 42))
      clear NW
      go_wp2_with (at_builtin; refine wpList_append_own_at _ rfl _ _ 22 rfl W1.heap.size 42 i0 _ 4 32 Try.underlying22 hi hz0 hz1 hz2 rfl (by decide) _ _ _ rfl HM.out ⟨wr.heap.size + 1, 0, none⟩ 1 1 (ecells ⟨et, ef, ec, ek⟩) rfl rfl HN.out (ecells_one _) (by unfold maxLen; omega) (by omega) (by simp; omega) ?_)
      intro v' w1 own grow _ ha
      obtain ⟨ao', cap', rfl, q1, q2, q3, q4⟩ := net_grow (x := ⟨et, ef, ec, ek⟩) hlen.symm m0 m1 m3 m4 m5 R1.ge R1.zz own grow (by rw [hsz]; simpa using ha)
      have e : turn ⟨ef, et, ec, ek⟩ = ⟨et, ef, ec, ek⟩ := rfl
      rw [e] at TT
      rw [← TT] at q3
      have KN := hid_of ((Below.grown (KE.alloc _) grow (KE.alloc _).size (fun j hj => (m2.lt j hj).1)).setCell (p := ⟨w.heap.size + 2, 1, none⟩) (by have := HZ.out; simp only; omega) (.slice ao' (k + 1) cap'))
      have Q3 : Hid (NetAt (w1.setCell ⟨w.heap.size + 2, 1, none⟩ (.slice ao' (k + 1) cap')) W1.heap.size (w.heap.size + 2) nodes ((es.take (k + 1)).map turn)) := by rw [EL'.out]; exact q3
      clear own grow ha HN HM m0 m1 m2 m3 m4 m5 R1 KE d1 d2 d3 d4 R m1' q3 TT e
      go_wp2_with fail
      go_roundw
      case rel => exact ⟨k + 1, by omega, by go_num, Q3.out, KN.out⟩
      case measure => simp [intOf]; omega
    · obtain rfl : k = n := by omega
      have hall : es.take k = es := List.take_of_length_le hl2
      rw [hall] at R
      obtain ⟨bo, cp, m1, m2, m3⟩ := R.c1
      have m0 := R.c0
      have hlen : (es.map turn).length = k := by simp; omega
      rw [hlen] at m1 m2 m3
      have hlt : w.heap.size + 1 < W1.heap.size := by have := HZ.out; omega
      have s0 := K.cell f0
      have s1 := K.cell f1
      have s2 := (Below.frozen (p := ⟨w.heap.size + 1, 0, none⟩) K (lt_cell f0)).trans f2
      have s3 := (Below.frozen (p := ⟨w.heap.size + 1, 1, none⟩) K (lt_cell f1)).trans f3
      obtain ⟨t1, t2, t3, t4⟩ := box2w s0 s1 (.int .i64 nodes) (.slice bo k cp)
      have O2 := ownsRow_setCell_below (ownsRow_setCell_below m2 (a := ⟨w.heap.size + 1, 0, none⟩) hlt (.int .i64 nodes)) (a := ⟨w.heap.size + 1, 1, none⟩) hlt (.slice bo k cp)
      have KK := ((KG.trans K).setCell (p := ⟨w.heap.size + 1, 0, none⟩) (by simp) (.int .i64 nodes)).setCell (p := ⟨w.heap.size + 1, 1, none⟩) (by simp) (.slice bo k cp)
      clear R HR
      go_wp2
      refine bodyPost_ret (v := .agg #[.int .i64 nodes, .slice bo k cp]) (by simp [results, Try.results22, go_sem, t3, t4]) rfl ⟨bo, cp, rfl, O2.mono (by have := HZ.out; omega), KK⟩
end Go.Proofs.Ytjheiaegpoppaaa
namespace Go.Proofs.Ytjheiaegpoppaaa
open Go.RowKit

theorem edge_neq (f t c k : Int) (w : World) : (binOp .neq 42 (.agg #[.int .i64 f, .int .i64 t, .int .i64 c, .int .i64 k]) (.agg #[.int .i64 f, .int .i64 t, .int .i64 c, .int .i64 k])).run Try.prog w = .ok (.bool false) w := by
  have hp : Try.prog.stoodInHeld 42 = false := by kernel_rfl
  have hu : Try.prog.underlying 42 = some (.struct (Try.prog.fieldsOf 42)) := by simp [Program.fieldsOf, Try.underlying42]
  rw [run_neq_struct, run_equalIn_agg w 9999 42 _ _ hu hp]
  simp [Program.fieldsOf, Try.underlying42, Op.eqFields, go_sem, Try.underlying3, Try.underlying2]

set_option maxRecDepth 100000 in
set_option maxHeartbeats 2000000 in
theorem same_calls (nodes : Int) (ao bo : Option Addr) (n cap cbp : Nat) (es : List Ed) (w : World) (h : ERow w ao n cap es) (h2 : ERow w bo n cbp es) :
    Calls Try.prog 25 #[.agg #[.int .i64 nodes, .slice ao n cap], .agg #[.int .i64 nodes, .slice bo n cbp]] w fun v w' => v = .returned (.bool true) ∧ Kept w w' := by
  have hl1 : n ≤ es.length := Nat.le_of_eq h.len
  have hl2 : es.length ≤ n := Nat.le_of_eq h.len.symm
  have hr := h.room
  have hm := h.most
  have hr2 := h2.room
  have hm2 := h2.most
  unfold maxLen at hm hm2
  have q1 : (nodes != nodes) = false := by simp
  have q2 : ((n : Int) != (n : Int)) = false := by simp
  have KG : Kept w ((w.alloc (Obj.cells #[.int .i64 nodes, .slice ao n cap] 24)).alloc (Obj.cells #[.int .i64 nodes, .slice bo n cbp] 24)) := ((Kept.refl w).alloc _).alloc _
  have g1 : ((w.alloc (Obj.cells #[.int .i64 nodes, .slice ao n cap] 24)).alloc (Obj.cells #[.int .i64 nodes, .slice bo n cbp] 24)).cell? ⟨w.heap.size, 1, none⟩ = some (.slice ao n cap) := by simp [go_sem]
  have g2 : ((w.alloc (Obj.cells #[.int .i64 nodes, .slice ao n cap] 24)).alloc (Obj.cells #[.int .i64 nodes, .slice bo n cbp] 24)).cell? ⟨w.heap.size + 1, 1, none⟩ = some (.slice bo n cbp) := by simp [go_sem]
  go_enter Try.func25, Try.ntmps25
  go_wp2_with fail
  generalize (w.alloc (Obj.cells #[.int .i64 nodes, .slice ao n cap] 24)).alloc (Obj.cells #[.int .i64 nodes, .slice bo n cbp] 24) = W1 at KG g1 g2 ⊢
  have HA := hid_of (h.kept KG)
  have HB := hid_of (h2.kept KG)
  clear h h2
  go_loopw [5] (fun i wr => ∃ (k m : Nat), k ≤ n ∧ i = .int .i64 k ∧ wr = W1.drewN m) (fun i _ => n - (intOf i).toNat)
  case atStart => exact ⟨0, 0, by omega, rfl, rfl⟩
  case round =>
    obtain ⟨k, m, hk, rfl, rfl⟩ := hrel
    by_cases hgo : (k : Int) < (n : Int)
    · obtain ⟨b, off, rfl, hc⟩ := HA.out.cell (by omega)
      obtain ⟨b2, off2, rfl, hc2⟩ := HB.out.cell (by omega)
      obtain ⟨c1, c2, c3, c4⟩ := hc k (by omega)
      obtain ⟨d1, d2, d3, d4⟩ := hc2 k (by omega)
      clear hc hc2 HA HB
      generalize edAt es k = ed at c1 c2 c3 c4 d1 d2 d3 d4
      obtain ⟨ef, et, ec, ek⟩ := ed
      simp only at c1 c2 c3 c4 d1 d2 d3 d4
      have NE := edge_neq ef et ec ek
      go_wp2_with fail
      go_quiet (fail)

      go_wp2
      go_roundw
      case rel => exact ⟨k + 1, _, by omega, by go_num, (by first | rfl | exact World.drewN_drewN ..)⟩
      case measure => simp [intOf]; omega
    · obtain rfl : k = n := by omega
      go_wp2
      go_ret
      exact ⟨rfl, KG.drewN _⟩
end Go.Proofs.Ytjheiaegpoppaaa
namespace Go.Proofs.Ytjheiaegpoppaaa
open Go.RowKit

theorem take_snoc (es : List Ed) (k : Nat) (hk : k < es.length) : es.take (k + 1) = es.take k ++ [edAt es k] := by
  have e1 : edAt es k = es[k] := by simp [edAt, List.getD, hk]
  rw [List.take_succ_eq_append_getElem hk, e1]

set_option maxRecDepth 100000 in
set_option maxHeartbeats 2000000 in
theorem copyR_calls (nodes : Int) (ao : Option Addr) (n cap : Nat) (es : List Ed) (w : World) (h : ERow w ao n cap es) (hb : n * 32 ≤ 140737488355328) :
    Calls Try.prog 24 #[.agg #[.int .i64 nodes, .slice ao n cap]] w fun v w' => ∃ ao' cap', v = .returned (.agg #[.int .i64 nodes, .slice ao' n cap']) ∧ w'.ownsRow w.heap.size 42 4 (.slice ao' n cap') n (evals es) ∧ Kept w w' := by
  have hl1 : n ≤ es.length := Nat.le_of_eq h.len
  have hl2 : es.length ≤ n := Nat.le_of_eq h.len.symm
  have hr := h.room
  have hm := h.most
  unfold maxLen at hm
  obtain ⟨i0, hi, hz0, hz1, hz2⟩ := infoE
  have KG : Kept w ((w.alloc (Obj.cells #[.int .i64 nodes, .slice ao n cap] 24)).alloc (Obj.cells #[.int .i64 0, .slice none 0 0] 24)) := ((Kept.refl w).alloc _).alloc _
  have g1 : ((w.alloc (Obj.cells #[.int .i64 nodes, .slice ao n cap] 24)).alloc (Obj.cells #[.int .i64 0, .slice none 0 0] 24)).cell? ⟨w.heap.size, 1, none⟩ = some (.slice ao n cap) := by simp [go_sem]
  have f0 : ((w.alloc (Obj.cells #[.int .i64 nodes, .slice ao n cap] 24)).alloc (Obj.cells #[.int .i64 0, .slice none 0 0] 24)).cell? ⟨w.heap.size + 1, 0, none⟩ = some (.int .i64 0) := by simp [go_sem]
  have f1 : ((w.alloc (Obj.cells #[.int .i64 nodes, .slice ao n cap] 24)).alloc (Obj.cells #[.int .i64 0, .slice none 0 0] 24)).cell? ⟨w.heap.size + 1, 1, none⟩ = some (.slice none 0 0) := by simp [go_sem]
  have f2 : ((w.alloc (Obj.cells #[.int .i64 nodes, .slice ao n cap] 24)).alloc (Obj.cells #[.int .i64 0, .slice none 0 0] 24)).frozen? ⟨w.heap.size + 1, 0, none⟩ = false := by simp [go_sem]
  have f3 : ((w.alloc (Obj.cells #[.int .i64 nodes, .slice ao n cap] 24)).alloc (Obj.cells #[.int .i64 0, .slice none 0 0] 24)).frozen? ⟨w.heap.size + 1, 1, none⟩ = false := by simp [go_sem]
  have hz : ((w.alloc (Obj.cells #[.int .i64 nodes, .slice ao n cap] 24)).alloc (Obj.cells #[.int .i64 0, .slice none 0 0] 24)).heap.size = w.heap.size + 2 := by simp
  go_enter Try.func24, Try.ntmps24
  go_wp2_with fail
  generalize (w.alloc (Obj.cells #[.int .i64 nodes, .slice ao n cap] 24)).alloc (Obj.cells #[.int .i64 0, .slice none 0 0] 24) = W1 at KG g1 f0 f1 f2 f3 hz ⊢
  have HR := hid_of (h.kept KG)
  have N0 : NetAt (W1.alloc (Obj.cells #[.int .i64 nodes, .slice none 0 0] 24)) W1.heap.size (w.heap.size + 2) nodes [] := by
    rw [← hz]
    exact ⟨by simp [go_sem], ⟨none, 0, by simp [go_sem], World.ownsRow_nil _ _ _ _, by simp [Value.ownBlock]⟩, by simp [go_sem], by simp [go_sem], Nat.le_refl _, fun q => by simp [go_sem]⟩
  have HZ := hid_of hz
  clear h hz
  go_loopw [4] (fun i wr => ∃ (k : Nat), k ≤ n ∧ i = .int .i64 k ∧ NetAt wr W1.heap.size (w.heap.size + 2) nodes (es.take k) ∧ Kept W1 wr) (fun i _ => n - (intOf i).toNat)
  case atStart => exact ⟨0, by omega, rfl, N0, (Kept.refl _).alloc _⟩
  case round =>
    obtain ⟨k, hk, rfl, R, K⟩ := hrel
    clear N0
    have p1 := K.cell g1
    by_cases hgo : (k : Int) < (n : Int)
    · obtain ⟨b, off, rfl, hc⟩ := HR.out.cell (by omega)
      obtain ⟨c1, c2, c3, c4⟩ := hc k (by omega)
      have d1 := K.cell c1
      have d2 := K.cell c2
      have d3 := K.cell c3
      have d4 := K.cell c4
      clear hc c1 c2 c3 c4
      have TT := take_snoc es k (by omega)
      have hlen : (es.take k).length = k := by simp; omega
      have HL' : Hid (∃ L', es.take (k + 1) = L') := ⟨_, rfl⟩
      obtain ⟨L', hL'⟩ := HL'.out
      have EL' := hid_of hL'
      rw [hL'] at TT
      clear hL' HL'
      generalize es.take k = L at TT hlen R
      generalize edAt es k = ed at d1 d2 d3 d4 TT
      obtain ⟨ef, et, ec, ek⟩ := ed
      simp only at d1 d2 d3 d4
      obtain ⟨bo, cp, m1, m2, m3⟩ := R.c1
      have m0 := R.c0
      have m4 := R.z0
      have m5 := R.z1
      have mge := R.ge
      rw [hlen] at m1 m2 m3
      have lp : w.heap.size + 2 < wr.heap.size := lt_cell m1
      have bB : W1.heap.size ≤ wr.heap.size := K.size
      have NW := hid_of (cell_new4 wr.drew 42 ⟨ef, et, ec, ek⟩)
      have HM := hid_of (World.ownsRow.alloc m2.drew (Obj.cells #[.int .i64 ef, .int .i64 et, .int .i64 ec, .int .i64 ek] 42))
      have EXT := hid_of EL'.out
      go_wp2_with fail
      go_region_law ((refine step_append_lies _ (by rfl) (.tmp 16) (.tmp 22) 22 (by rfl) W1.heap.size 42 i0 _ 4 32 Try.underlying22 hi hz0 hz1 hz2 rfl (by decide) _ _ _ (by rfl) HM.out ⟨wr.heap.size, 0, none⟩ 1 1 (ecells ⟨ef, et, ec, ek⟩) (by rfl) rfl NW.out (ecells_one _) (by decide) (by unfold maxLen; omega) (by omega) (by simp; omega) (wr.heap.size + 1) (by simp) ?_; intro g cap3 w1 own grow hat hlt; obtain ⟨ao5, cap5, e5, q1, q2, q3, q4⟩ := net_grow (wr := wr.drew) (o := Obj.cells #[.int .i64 ef, .int .i64 et, .int .i64 ec, .int .i64 ek] 42) (x := ⟨ef, et, ec, ek⟩) hlen.symm m0 m1 m3 m4 m5 mge R.zz own grow (by rcases hat with t | t; exact .inl t.symm; exact .inr (by rw [t]; rfl)); have KX : Kept W1 (w1.setCell ⟨w.heap.size + 2, 1, none⟩ (.slice (some ⟨g, 0, none⟩) (k + 1) cap3)) := ((Below.grown (K.drew.alloc _) grow (K.drew.alloc _).size (fun j hj => (m2.lt j hj).1)).setCell (by have := HZ.out; simp only; omega) _)))
      all_goals
        rw [← TT] at q3
        have Q3 : Hid (NetAt (w1.setCell ⟨w.heap.size + 2, 1, none⟩ (.slice (some ⟨g, 0, none⟩) (k + 1) cap3)) W1.heap.size (w.heap.size + 2) nodes (es.take (k + 1))) := by rw [EXT.out]; exact q3
        have HX := hid_of KX
        clear q3 KX own grow hat q1 q2 q4 HM NW d1 d2 d3 d4 m0 m1 m2 m3 m4 m5 R TT
        go_wp2_with fail
        go_roundw
        case rel => exact ⟨k + 1, by omega, by go_num, Q3.out, HX.out⟩
        case measure => simp [intOf]; omega
    · obtain rfl : k = n := by omega
      have hall : es.take k = es := List.take_of_length_le hl2
      rw [hall] at R
      obtain ⟨bo, cp, m1, m2, m3⟩ := R.c1
      have m0 := R.c0
      have hlen : es.length = k := by omega
      rw [hlen] at m1 m2 m3
      have hlt : w.heap.size + 1 < W1.heap.size := by have := HZ.out; omega
      have s0 := K.cell f0
      have s1 := K.cell f1
      have s2 := (Below.frozen (p := ⟨w.heap.size + 1, 0, none⟩) K (lt_cell f0)).trans f2
      have s3 := (Below.frozen (p := ⟨w.heap.size + 1, 1, none⟩) K (lt_cell f1)).trans f3
      obtain ⟨t1, t2, t3, t4⟩ := box2w s0 s1 (.int .i64 nodes) (.slice bo k cp)
      have O2 := ownsRow_setCell_below (ownsRow_setCell_below m2 (a := ⟨w.heap.size + 1, 0, none⟩) hlt (.int .i64 nodes)) (a := ⟨w.heap.size + 1, 1, none⟩) hlt (.slice bo k cp)
      have KK := ((KG.trans K).setCell (p := ⟨w.heap.size + 1, 0, none⟩) (by simp) (.int .i64 nodes)).setCell (p := ⟨w.heap.size + 1, 1, none⟩) (by simp) (.slice bo k cp)
      clear R HR hlen
      go_wp2
      refine bodyPost_ret (v := .agg #[.int .i64 nodes, .slice bo k cp]) (by simp [results, Try.results24, go_sem, t3, t4]) rfl ⟨bo, cp, rfl, O2.mono (by have := HZ.out; omega), KK⟩
end Go.Proofs.Ytjheiaegpoppaaa
namespace Go.Proofs.Ytjheiaegpoppaaa
open Go.RowKit

/-- The nodes, the one that was left last first. -/
structure Falling (n : Nat) (q : Nat → Int) (ρl : List Nat) : Prop where
  len : ρl.length = n
  lt : ∀ r ∈ ρl, r < n
  cov : ∀ v, v < n → ∃ j, j < n ∧ ρl.getD j 0 = v
  ord : ∀ i j, i < j → j < n → q (ρl.getD j 0) ≤ q (ρl.getD i 0)

theorem extract_all {α : Type} (d : Array α) (k : Nat) (h : d.size = k) : d.extract 0 k = d := by subst h; simp

set_option maxRecDepth 100000 in
set_option maxHeartbeats 2000000 in
theorem sortN_calls (n : Nat) (hn0 : 0 < n) (hn : n ≤ 1024) (g bx gq : Nat) (q : Nat → Int) (w : World) (I : IntsAt w g n (fun v => (v : Int))) (hb : w.cell? ⟨bx, 0, none⟩ = some (.slice (some ⟨gq, 0, none⟩) n n)) (hQ : IntsAt w gq n q) (hbd : Hid (∀ v, v < n → 0 ≤ q v ∧ q v < 4096)) (hbx : ¬ bx = g) (hgq : ¬ gq = g) :
    Calls Try.prog 37 #[.slice (some ⟨g, 0, none⟩) n n, .func (.func 38) #[] #[.pointer (some ⟨bx, 0, none⟩)]] w fun r w' => r = .returned (.tuple #[]) ∧ ∃ ρl, Falling n q ρl ∧ JRow w' (some ⟨g, 0, none⟩) n n (qz ρl) ∧ Ch (fun k => k = g) w w' := by
  haveI : Inhabited (Fin n) := ⟨⟨0, hn0⟩⟩
  let enc : Fin n → Value := fun x => .int .i64 (x.val : Int)
  let cf : Fin n → Fin n → Int := fun x y => q y.val - q x.val
  let d : Array (Fin n) := Array.ofFn (fun i : Fin n => i)
  have hds : d.size = n := by simp [d]
  have hdg : ∀ j (hj : j < n), d[j]! = ⟨j, hj⟩ := fun j hj => by
    rw [getElem!_pos d j (by rw [hds]; exact hj)]
    simp [d]
  have hH : Sort.Holds enc w g 0 d := fun j hj => by
    rw [hds] at hj
    rw [hdg j hj, Nat.zero_add]
    exact ⟨I.cell hj, World.rowIs.frozen I j⟩
  have lt : ∀ x y : Fin n, ltOf cf x y = decide (q y.val < q x.val) := fun x y => by
    show decide (q y.val - q x.val < 0) = _
    by_cases c : q y.val < q x.val
    · rw [decide_eq_true c, decide_eq_true (by omega)]
    · rw [decide_eq_false c, decide_eq_false (by omega)]
  have hO : Sort.SWO (ltOf cf) := by
    refine ⟨fun x => ?_, fun x y z h1 h2 => ?_, fun x y z h1 h2 => ?_⟩
    · rw [lt]; simp
    · rw [lt] at *; simp at *; omega
    · rw [lt] at *; simp at *; omega
  have eg : ∀ args w, (callFunc 38 args).run Try.prog w = .ok (.enter 38 args) w := enters_of Try.func38 (by kernel_rfl) rfl
  have hcr : CmpReads Try.prog 38 #[.pointer (some ⟨bx, 0, none⟩)] enc cf g 0 d.size w := fun m os dk _ x y => by
    have C := Ch.of_sort enc w g 0 m dk os
    exact scl_calls _ bx gq n q (C.cell hb hbx) (hQ.ch C hgq) hbd x.val y.val x.isLt y.isLt
  have hS := Any.slices_SortFunc sortL enc (fun _ => rfl) cf hO 38 #[.pointer (some ⟨bx, 0, none⟩)] g 0 n d w eg hcr.lays hH I.lt (by rw [hds]; omega)
  rw [hds] at hS
  change Calls Try.prog 37 _ _ _ at hS
  refine hS.mono ?_
  rintro e w' ⟨rfl, d', m, os, hp, hs, rfl⟩
  have hs' : d'.size = n := by rw [hp.1, hds]
  have HH : Sort.Holds enc (sortWorld enc w g 0 m d' os) g 0 d' := by
    refine Sort.holds_grow enc _ os g 0 d' ?_ (Sort.holds_putRow enc _ g 0 d d' (Sort.holds_ahead enc w m g 0 d hH) (by rw [hs', hds]))
    rw [Sort.size_putRow, Sort.heap_ahead]
    exact I.lt
  have hget : ∀ j (hj : j < n), (d'.toList.map fun x : Fin n => x.val).getD j 0 = (d'[j]!).val := fun j hj => by
    have hj2 : j < d'.size := by omega
    rw [getElem!_pos d' j hj2]
    simp [List.getD, hj2]
  refine ⟨rfl, d'.toList.map fun x => x.val, ⟨by simp [hs'], fun r hr => ?_, fun v hv => ?_, fun i j hij hj => ?_⟩, ⟨by simp [qz, hs'], Nat.le_refl _, by unfold maxLen; omega, fun _ => ⟨g, 0, rfl, fun i hi => ?_⟩⟩, Ch.of_sort enc w g 0 m d' os⟩
  · obtain ⟨x, -, rfl⟩ := List.mem_map.1 hr
    exact x.isLt
  · have hmem : (⟨v, hv⟩ : Fin n) ∈ (d'.extract 0 n).toList := by
      refine hp.2.2.symm.mem_iff.1 ?_
      rw [extract_all d n hds]
      simp [d]
    rw [extract_all d' n hs'] at hmem
    obtain ⟨j, hj, e⟩ := List.getElem_of_mem hmem
    have hj2 : j < n := by simp at hj; omega
    refine ⟨j, hj2, ?_⟩
    rw [hget j hj2, getElem!_pos d' j (by omega)]
    have : d'[j] = (⟨v, hv⟩ : Fin n) := by simpa using e
    rw [this]
  · have := hs i j (Nat.zero_le _) hij hj
    rw [lt] at this
    simp at this
    rw [hget i (by omega), hget j hj]
    exact this
  · have := (HH i (by omega)).1
    rw [this]
    show some (Value.int .i64 ((d'[i]!).val : Int)) = _
    rw [qz_get _ _ (by simp [hs']; exact hi), hget i hi]
end Go.Proofs.Ytjheiaegpoppaaa
namespace Go.Proofs.Ytjheiaegpoppaaa
open Go.RowKit

theorem sortA_calls (n : Nat) (hn : n ≤ 1024) (g bx gq : Nat) (q : Nat → Int) (w : World) (I : IntsAt w g n (fun v => (v : Int))) (hb : w.cell? ⟨bx, 0, none⟩ = some (.slice (some ⟨gq, 0, none⟩) n n)) (hQ : IntsAt w gq n q) (hbd : Hid (∀ v, v < n → 0 ≤ q v ∧ q v < 4096)) (hbx : ¬ bx = g) (hgq : ¬ gq = g) :
    Calls Try.prog 37 #[.slice (some ⟨g, 0, none⟩) n n, .func (.func 38) #[] #[.pointer (some ⟨bx, 0, none⟩)]] w fun r w' => r = .returned (.tuple #[]) ∧ ∃ ρl, Falling n q ρl ∧ JRow w' (some ⟨g, 0, none⟩) n n (qz ρl) ∧ Ch (fun k => k = g) w w' := by
  by_cases h0 : n = 0
  · subst h0
    have hS := AnyF.slices_SortFunc_none (P := Try.prog) (ρ := sortL_ren) { sortL with } (some ⟨g, 0, none⟩) 0 (.func (.func 38) #[] #[.pointer (some ⟨bx, 0, none⟩)]) w
    change Calls Try.prog 37 _ _ _ at hS
    refine hS.mono ?_
    rintro e w' ⟨rfl, rfl⟩
    exact ⟨rfl, [], ⟨rfl, fun r hr => absurd hr List.not_mem_nil, fun v hv => absurd hv (Nat.not_lt_zero _), fun i j _ hj => absurd hj (Nat.not_lt_zero _)⟩, ⟨rfl, Nat.le_refl _, by unfold maxLen; omega, fun h => absurd h (Nat.lt_irrefl _)⟩, Ch.refl _ _⟩
  · exact sortN_calls n (by omega) hn g bx gq q w I hb hQ hbd hbx hgq

set_option maxRecDepth 100000 in
set_option maxHeartbeats 4000000 in
theorem strongBad_calls (nodes : Int) (ao : Option Addr) (m cap : Nat) (es : List Ed) (w : World) (h : ERow w ao m cap es) (c a : Int) (hf : Hid (faultOf nodes es = (c, a))) (hb : c ≠ 0) :
    Calls Try.prog 17 #[.agg #[.int .i64 nodes, .slice ao m cap]] w fun r w' => r = .returned (.tuple #[.slice none 0 0, .int .i64 c]) ∧ Kept w w' := by
  have KG : Kept w (w.alloc (Obj.cells #[.int .i64 nodes, .slice ao m cap] 24)) := (Kept.refl w).alloc _
  have g0 : (w.alloc (Obj.cells #[.int .i64 nodes, .slice ao m cap] 24)).cell? ⟨w.heap.size, 0, none⟩ = some (.int .i64 nodes) := by simp [go_sem]
  have g1 : (w.alloc (Obj.cells #[.int .i64 nodes, .slice ao m cap] 24)).cell? ⟨w.heap.size, 1, none⟩ = some (.slice ao m cap) := by simp [go_sem]
  have HE := hid_of (h.kept KG)
  have HB := hid_of hb
  have hq : (c != 0) = true := by simpa using hb
  clear h hb
  go_enter Try.func17, Try.ntmps17
  go_wp2_with fail
  generalize hW0 : w.alloc (Obj.cells #[.int .i64 nodes, .slice ao m cap] 24) = W0 at KG g0 g1 HE ⊢
  clear hW0
  refine (visitBad_calls nodes ao m cap es W0 HE.out c a hf HB.out).mono ?_
  rintro v wa ⟨rfl, K1⟩
  have KA := hid_of ((KG.trans K1).alloc (Obj.cells #[.slice none 0 0] 26))
  clear K1 KG HE g1 g0
  go_wp2_with fail
  go_ret2
  exact ⟨rfl, KA.out⟩

set_option maxRecDepth 100000 in
set_option maxHeartbeats 8000000 in
theorem strong_calls (n : Nat) (hn : n ≤ 1024) (ao : Option Addr) (m cap : Nat) (es : List Ed) (w : World) (h : ERow w ao m cap es) (hnil : Hid (ao = none → m = 0 ∧ cap = 0)) (hf : Hid (faultOf (n : Int) es = (0, 0))) (hm4 : m ≤ 4096) (hrg : Hid (∀ e ∈ es, 0 ≤ e.f ∧ e.f < (n : Int) ∧ 0 ≤ e.t ∧ e.t < (n : Int))) :
    Calls Try.prog 17 #[.agg #[.int .i64 (n : Int), .slice ao m cap]] w fun r w' => ∃ g c cnt, r = .returned (.tuple #[.slice (some ⟨g, 0, none⟩) n n, .int .i64 0]) ∧ IntsAt w' g n c ∧ NumOf n (Mut es) c cnt ∧ w.heap.size ≤ g ∧ Kept w w' := by
  have KG : Kept w (w.alloc (Obj.cells #[.int .i64 (n : Int), .slice ao m cap] 24)) := (Kept.refl w).alloc _
  have g0 : (w.alloc (Obj.cells #[.int .i64 (n : Int), .slice ao m cap] 24)).cell? ⟨w.heap.size, 0, none⟩ = some (.int .i64 (n : Int)) := by simp [go_sem]
  have g1 : (w.alloc (Obj.cells #[.int .i64 (n : Int), .slice ao m cap] 24)).cell? ⟨w.heap.size, 1, none⟩ = some (.slice ao m cap) := by simp [go_sem]
  have HE := hid_of (h.kept KG)
  have HL := hid_of h.len
  have H0 := hid_of h
  clear h
  go_enter Try.func17, Try.ntmps17
  go_wp2_with fail
  generalize hW0 : w.alloc (Obj.cells #[.int .i64 (n : Int), .slice ao m cap] 24) = W0 at KG g0 g1 HE ⊢
  clear hW0
  refine (visit_calls n hn ao m cap es W0 HE.out hf hm4 hrg).mono ?_
  rintro v w1 ⟨gp, gq, rfl, P1, Q1, -, -, -, K1⟩
  have NS := hid_of (nested_of hrg.out)
  obtain ⟨q, hq⟩ : ∃ q, (times es n).post = q := ⟨_, rfl⟩
  rw [hq] at Q1 NS
  have KB : Kept w1 (w1.alloc (Obj.cells #[.slice (some ⟨gq, 0, none⟩) n n] 26)) := (Kept.refl w1).alloc _
  have b0 : (w1.alloc (Obj.cells #[.slice (some ⟨gq, 0, none⟩) n n] 26)).cell? ⟨w1.heap.size, 0, none⟩ = some (.slice (some ⟨gq, 0, none⟩) n n) := by simp [go_sem]
  have Q2 := hid_of (Q1.kept KB)
  replace g0 := (K1.trans KB).cell g0
  replace g1 := (K1.trans KB).cell g1
  have HE2 := hid_of (HE.out.kept (K1.trans KB))
  have K2 := hid_of (KG.trans (K1.trans KB))
  clear P1 Q1 K1 KB KG HE hq
  go_upto_region 2 with fail
  generalize hW2 : w1.alloc (Obj.cells #[.slice (some ⟨gq, 0, none⟩) n n] 26) = W2 at *
  clear hW2
  generalize w1.heap.size = bx at *
  go_wp2_with fail
  refine (upTo_calls n hn W2).mono ?_
  rintro r w3 ⟨g, rfl, I3, K3, hg3⟩
  have b3 := K3.cell b0
  have Q3 := Q2.out.kept K3
  have hbxg : ¬ bx = g := by have := lt_cell b0; simp only at this; omega
  have hgqg : ¬ gq = g := by have := Q2.out.lt; omega
  have hbgg : ¬ w.heap.size = g := by have := lt_cell g0; simp only at this; omega
  have SC := hid_of (sortA_calls n hn g bx gq q w3 I3 b3 Q3 (fun v hv => by have := NS.out.pos v hv; omega) hbxg hgqg)
  replace g0 := K3.cell g0
  replace g1 := K3.cell g1
  have HE3 := hid_of (HE2.out.kept K3)
  have K4 := hid_of (K2.out.trans K3)
  have hgW : W2.heap.size ≤ g := hg3
  clear I3 K3 b3 Q3 b0 Q2 HE2
  go_wp2_with fail
  refine SC.out.mono ?_
  rintro r w4 ⟨rfl, ρl, FA, J4, C4⟩
  have hwW : w.heap.size ≤ W2.heap.size := K2.out.size
  replace g0 := C4.cell g0 hbgg
  replace g1 := C4.cell g1 hbgg
  have K5 := hid_of (K4.out.ch C4 (fun k t => by omega))
  have JH := hid_of J4
  have FAH := hid_of FA
  have HE4 := hid_of (H0.out.kept K5.out)
  clear J4 C4 FA SC HE3 K4
  go_wp2_with fail
  refine (rev_calls (n : Int) ao m cap es w4 HE4.out (by omega) hnil.out).mono ?_
  rintro r w5 ⟨ao', cap', rfl, O5, K6⟩
  have E5 := hid_of (ERow.of_owns O5)
  have J5 := hid_of (JH.out.kept K6)
  have K7 := hid_of (K5.out.trans K6)
  clear O5 K6 JH K5
  go_wp2_with fail
  refine (next_calls n hn ao' m cap' (es.map turn) w5 E5.out (by omega) (fun e he => ⟨(turn_rg hrg.out e he).1, (turn_rg hrg.out e he).2.1⟩)).mono ?_
  rintro r w6 ⟨nq, rfl, N6, K8⟩
  have hml : m = (es.map turn).length := by rw [List.length_map]; exact HL.out
  rw [hml] at N6
  have HML := hid_of hml
  obtain ⟨hNM, cnt, hNum⟩ := strong_num hrg.out NS.out FAH.out.len FAH.out.lt FAH.out.cov FAH.out.ord
  have PC := hid_of (partsFrom_calls n hn (nxt (es.map turn) (es.map turn).length) (fun v hv => Nat.le_trans (nxt_len (es.map turn) _ v) (by rw [← HML.out]; omega)) (fun v hv t ht => (by obtain ⟨e, he, _, rfl⟩ := nxt_mem ht; have := turn_rg hrg.out e he; omega)) ρl FAH.out.len FAH.out.lt (some ⟨g, 0, none⟩) n w6 (J5.out.kept K8) nq (N6.reads (F := fun _ => False) (fun k t => t.elim)).1 (by obtain ⟨_, r, _⟩ := N6.ex; exact r.lt) hNM)
  have K9 := hid_of (K7.out.trans K8)
  have HNUM := hid_of hNum
  clear N6 K8 hNM hNum K7 J5 hml
  go_wp2_with fail
  refine PC.out.mono ?_
  rintro r w7 ⟨g', rfl, I7, K10, hg7⟩
  have FI := hid_of I7
  have FK := hid_of (K9.out.trans K10)
  have hgw : w.heap.size ≤ g' := Nat.le_trans K9.out.size hg7
  clear I7 K10 PC
  go_wp2_with fail
  go_ret2
  exact ⟨g', _, cnt, rfl, FI.out, HNUM.out, hgw, FK.out⟩
end Go.Proofs.Ytjheiaegpoppaaa
namespace Go.Proofs.Ytjheiaegpoppaaa
open Go.RowKit

theorem line_up {u v : Nat} (h : v ∈ outs line3 u) : u < v := by
  obtain ⟨e, he, h1, h2⟩ := outs_mem h
  simp only [line3, List.mem_cons, List.not_mem_nil, or_false] at he
  rcases he with rfl | rfl
  · simp only at h1 h2; omega
  · simp only at h1 h2; omega
theorem line_way {u v : Nat} (h : Way (outs line3) u v) : u ≤ v := by
  induction h with
  | refl => exact Nat.le_refl _
  | step _ hx ih => have := line_up hx; omega

theorem line_strong {c cnt : Nat → Int} (h : NumOf 3 (Mut line3) c cnt) : c 0 = 0 ∧ c 1 = 1 ∧ c 2 = 2 := by
  have no : ∀ v, v < 3 → ∀ u, u < v → ¬ Mut line3 u v := fun v _ u hu hm => by have := line_way hm.2; omega
  have a0 := h.new 0 (by omega) (no 0 (by omega))
  have a1 := h.new 1 (by omega) (no 1 (by omega))
  have a2 := h.new 2 (by omega) (no 2 (by omega))
  have z := h.zero
  simp only [Nat.zero_add, Nat.reduceAdd] at a0 a1 a2
  omega

theorem JRow.ofNum {w : World} {g n : Nat} {R : Nat → Nat → Prop} {c c' cnt cnt' : Nat → Int} (h : IntsAt w g n c') (N : NumOf n R c cnt) (N' : NumOf n R c' cnt') (hn : n ≤ maxLen) : JRow w (some ⟨g, 0, none⟩) n n ((List.range n).map c) :=
  ⟨by simp, Nat.le_refl _, hn, fun _ => ⟨g, 0, rfl, fun i hi => by
    rw [Nat.zero_add, h.cell hi, ← (N.uniq N' n (Nat.le_refl _)).2 i hi]
    simp [List.getD, hi]⟩⟩
end Go.Proofs.Ytjheiaegpoppaaa
namespace Go.Proofs.Ytjheiaegpoppaaa
open Go.RowKit

theorem edAt_turn (es : List Ed) (k : Nat) : edAt (es.map turn) k = turn (edAt es k) := by
  unfold edAt
  simp only [List.getD, List.getElem?_map]
  cases es[k]? <;> rfl

theorem bad_turn (n : Int) (e : Ed) : badOf n (turn e) = badOf n e := by
  unfold badOf turn
  simp only
  have h : (e.t < 0 ∨ e.f < 0 ∨ n ≤ e.t ∨ n ≤ e.f) ↔ (e.f < 0 ∨ e.t < 0 ∨ n ≤ e.f ∨ n ≤ e.t) := by omega
  simp only [h]

theorem faultTo_turn (n : Int) (es : List Ed) (k : Nat) : faultTo n (es.map turn) k = faultTo n es k := by
  induction k with
  | zero => rfl
  | succ k ih =>
    unfold faultTo
    rw [ih, edAt_turn, bad_turn]

theorem fault_turn (n : Int) (es : List Ed) : faultOf n (es.map turn) = faultOf n es := by
  unfold faultOf
  rw [List.length_map, faultTo_turn]

theorem way_turn {es : List Ed} {n : Nat} (hrg : ∀ e ∈ es, 0 ≤ e.f ∧ e.f < (n : Int) ∧ 0 ≤ e.t ∧ e.t < (n : Int)) {u v : Nat} (h : Way (outs es) u v) : Way (outs (es.map turn)) v u := by
  induction h with
  | refl => exact Way.refl _
  | @step v x _ hx ih => exact ((Way.refl x).step ((turn_outs hrg).2 hx)).trans ih
theorem way_turn' {es : List Ed} {n : Nat} (hrg : ∀ e ∈ es, 0 ≤ e.f ∧ e.f < (n : Int) ∧ 0 ≤ e.t ∧ e.t < (n : Int)) {u v : Nat} (h : Way (outs (es.map turn)) u v) : Way (outs es) v u := by
  induction h with
  | refl => exact Way.refl _
  | @step v x _ hx ih => exact ((Way.refl x).step ((turn_outs hrg).1 hx)).trans ih
theorem mut_turn {es : List Ed} {n : Nat} (hrg : ∀ e ∈ es, 0 ≤ e.f ∧ e.f < (n : Int) ∧ 0 ≤ e.t ∧ e.t < (n : Int)) (u v : Nat) : Mut (es.map turn) u v ↔ Mut es u v :=
  ⟨fun h => ⟨way_turn' hrg h.2, way_turn' hrg h.1⟩, fun h => ⟨way_turn hrg h.2, way_turn hrg h.1⟩⟩

theorem way_both {es : List Ed} {n : Nat} (hrg : ∀ e ∈ es, 0 ≤ e.f ∧ e.f < (n : Int) ∧ 0 ≤ e.t ∧ e.t < (n : Int)) {u v : Nat} (h : Way (outs es) u v) : Way (outs (both es)) u v := by
  induction h with
  | refl => exact Way.refl _
  | step _ hx ih =>
    obtain ⟨e, he, h1, h2⟩ := outs_mem hx
    have r := hrg e he
    exact ih.step (mem_outs' (List.mem_append.2 (.inl he)) h1 (by omega))
theorem way_back {es : List Ed} {n : Nat} (hrg : ∀ e ∈ es, 0 ≤ e.f ∧ e.f < (n : Int) ∧ 0 ≤ e.t ∧ e.t < (n : Int)) {u v : Nat} (h : Way (outs (both es)) u v) : Way (outs (both es)) v u := by
  induction h with
  | refl => exact Way.refl _
  | @step v x _ hx ih => exact ((Way.refl x).step (both_symm hrg hx)).trans ih

theorem owns_nilM {w : World} {base e : Nat} {n cap : Nat} {ao : Option Addr} {xs : List Value} (h : w.ownsRow base e 4 (.slice ao n cap) n xs) : ao = none → n = 0 ∧ cap = 0 := fun t => by
  subst t
  rcases h.2 with ⟨h1, h2⟩ | ⟨g, cp, cur, h1, _⟩
  · simp only [Value.slice.injEq] at h1; exact ⟨h2, h1.2.2⟩
  · simp at h1

/-- What the law holds the four lists against. -/
theorem mutual_of {es : List Ed} {n u v : Nat} (hrg : ∀ e ∈ es, 0 ≤ e.f ∧ e.f < (n : Int) ∧ 0 ≤ e.t ∧ e.t < (n : Int)) (hu : u < n) (hv : v < n) {s sc p pc a b : Nat → Int} (S : NumOf n (Mut es) s sc) (P : NumOf n (Way (outs (both es))) p pc) (A : Levs es n u a) (B : Levs es n v b) :
    (s u = s v ↔ (0 ≤ a v ∧ 0 ≤ b u)) ∧ (0 ≤ a v → p u = p v) := by
  have fs := (S.facts (fun u v _ _ h => ⟨h.2, h.1⟩) (fun u v x _ _ _ h k => ⟨h.1.trans k.1, k.2.trans h.2⟩) (fun u _ => ⟨Way.refl u, Way.refl u⟩) n (Nat.le_refl _)).2.2 u v hu hv
  have fp := (P.facts (fun u v _ _ h => way_back hrg h) (fun u v x _ _ _ h k => h.trans k) (fun u _ => Way.refl u) n (Nat.le_refl _)).2.2 u v hu hv
  rw [fs, A.reach hrg v, B.reach hrg u]
  exact ⟨Iff.rfl, fun h => fp.2 (way_both hrg h)⟩
end Go.Proofs.Ytjheiaegpoppaaa
namespace Go.Proofs.Ytjheiaegpoppaaa
open Go.RowKit

set_option maxRecDepth 100000 in
set_option maxHeartbeats 4000000 in
theorem levelsN_calls (n : Nat) (hn : n ≤ 1024) (ao : Option Addr) (m cap : Nat) (es : List Ed) (w : World) (h : ERow w ao m cap es) (hf : Hid (faultOf (n : Int) es = (0, 0))) (hrg : Hid (∀ e ∈ es, 0 ≤ e.f ∧ e.f < (n : Int) ∧ 0 ≤ e.t ∧ e.t < (n : Int))) (s : Nat) (hs : s < n) (lv : Nat → Int) (LS : Hid (Levs es n s lv)) :
    Calls Try.prog 26 #[.agg #[.int .i64 (n : Int), .slice ao m cap], .int .i64 (s : Int)] w fun r w' => ∃ g, r = .returned (.tuple #[.slice (some ⟨g, 0, none⟩) n n, .int .i64 0]) ∧ IntsAt w' g n lv ∧ w.heap.size ≤ g ∧ Kept w w' := by
  have hmkI : ∀ w : World, (Instr.makeSlice 26 (.int .i64 (n : Int)) (.int .i64 (n : Int))).run Try.prog w = .ok (.slice (some ⟨w.heap.size, 0, none⟩) n n) (w.alloc (.cells (madeCells #[.int .i64 0] n) 3)) :=
    fun w => run_make_row' 26 3 (.int .i64 0) 8 Try.underlying26 infoJ0 rfl .i64 .i64 n (by omega) (by omega) w
  have KG : Kept w (w.alloc (Obj.cells #[.int .i64 (n : Int), .slice ao m cap] 24)) := (Kept.refl w).alloc _
  have g0 : (w.alloc (Obj.cells #[.int .i64 (n : Int), .slice ao m cap] 24)).cell? ⟨w.heap.size, 0, none⟩ = some (.int .i64 (n : Int)) := by simp [go_sem]
  have g1 : (w.alloc (Obj.cells #[.int .i64 (n : Int), .slice ao m cap] 24)).cell? ⟨w.heap.size, 1, none⟩ = some (.slice ao m cap) := by simp [go_sem]
  have HE := hid_of (h.kept KG)
  have HL := hid_of h.len
  have hr := h.room
  have hmx := h.most
  unfold maxLen at hmx
  have hsi : (s : Int) < (n : Int) := by omega
  have hw : Hid ((0 : Int) = if (0 : Int) = 0 then (if (s : Int) < 0 ∨ (n : Int) ≤ (s : Int) then 30 else 0) else 0) := by
    show (0 : Int) = if (0 : Int) = 0 then (if (s : Int) < 0 ∨ (n : Int) ≤ (s : Int) then 30 else 0) else 0
    rw [if_pos rfl, if_neg (by omega)]
  clear h
  go_enter Try.func26, Try.ntmps26
  go_wp2_with fail
  generalize hW0 : w.alloc (Obj.cells #[.int .i64 (n : Int), .slice ao m cap] 24) = W0 at KG g0 g1 HE ⊢
  clear hW0
  refine (wrongR_calls (n : Int) ao m cap es W0 HE.out 0 0 hf (s : Int) 0 hw).mono ?_
  rintro v wb ⟨rfl, K1⟩
  replace g0 := K1.cell g0
  replace g1 := K1.cell g1
  have HE2 := hid_of (HE.out.kept K1)
  have KB := hid_of (KG.trans K1)
  clear K1 KG HE hw
  have B3 := World.rowIs_made wb (.int .i64 0) n 3
  have K3 : Kept wb (wb.alloc (.cells (madeCells #[.int .i64 0] n) 3)) := (Kept.refl wb).alloc _
  have B3H : Hid (IntsAt (wb.alloc (.cells (madeCells #[.int .i64 0] n) 3)) wb.heap.size n (fun j => if j < 0 then -1 else 0)) := World.rowIs.congr B3 (fun i _ => by simp)
  have K3H := hid_of K3
  clear B3
  go_upto_region 5 with fail
  generalize hW3 : wb.alloc (.cells (madeCells #[.int .i64 0] n) 3) = W3 at K3 B3H K3H ⊢
  clear hW3 hmkI K3
  obtain ⟨q, hq⟩ : ∃ q, wb.heap.size = q := ⟨_, rfl⟩
  have HQ := hid_of hq
  rw [hq] at B3H ⊢
  clear hq
  go_wp2_with fail
  go_loopw [8] (fun i wr => ∃ k : Nat, k ≤ n ∧ i = .int .i64 (k : Int) ∧ IntsAt wr q n (fun j => if j < k then -1 else 0) ∧ Kept wb wr) (fun i _ => n - (intOf i).toNat)
  case atStart => exact ⟨0, by omega, rfl, B3H.out, K3H.out⟩
  case round =>
    obtain ⟨k, hk, rfl, BR, K⟩ := hrel
    clear B3H K3H
    have x0 := K.cell g0
    by_cases hgo : (k : Int) < (n : Int)
    · have hkn : k < n := by omega
      have ck := BR.cell hkn
      have fk := World.rowIs.frozen BR k
      have BN : Hid (IntsAt (wr.setCell ⟨q, k, none⟩ (.int .i64 (-1))) q n (fun j => if j < k + 1 then -1 else 0)) := (IntsAt.set BR k (-1)).congr (fun v _ => by
        by_cases e : v = k
        · simp [e]
        · by_cases e2 : v < k
          · simp [e, e2, show v < k + 1 by omega]
          · simp [e, e2, show ¬ v < k + 1 by omega])
      have KN : Hid (Kept wb (wr.setCell ⟨q, k, none⟩ (.int .i64 (-1)))) := K.setCell (p := ⟨q, k, none⟩) (by rw [HQ.out]; exact Nat.le_refl _) _
      clear BR K
      go_wp2_with fail
      go_roundw
      case rel => exact ⟨k + 1, by omega, by go_num, BN.out, KN.out⟩
      case measure => simp [intOf]; omega
    · obtain rfl : k = n := by omega
      have cs := BR.cell hs
      have fs := World.rowIs.frozen BR s
      have BN : Hid (IntsAt (wr.setCell ⟨q, s, none⟩ (.int .i64 0)) q k (fun j => if j = s then 0 else -1)) := (IntsAt.set BR s 0).congr (fun v hv => by
        by_cases e : v = s
        · simp [e]
        · simp [e, hv])
      have KN : Hid (Kept wb (wr.setCell ⟨q, s, none⟩ (.int .i64 0))) := K.setCell (p := ⟨q, s, none⟩) (by rw [HQ.out]; exact Nat.le_refl _) _
      clear BR K
      go_upto_region 10 with fail
      generalize hW6 : wr.setCell ⟨q, s, none⟩ (.int .i64 0) = W6 at BN KN ⊢
      clear hW6 cs fs x0
      go_wp2_with fail
      go_loopw [9] (fun i wr => ∃ d : Nat, d ≤ k ∧ i = .int .i64 (d : Int) ∧ (∃ f, IntsAt wr q k f ∧ DIn es k lv d 0 f) ∧ Kept wb wr) (fun i _ => k - (intOf i).toNat)
      case atStart => exact ⟨0, by omega, rfl, ⟨_, BN.out, DIn.start LS.out⟩, KN.out⟩
      case round =>
        obtain ⟨d, hd, rfl, ⟨f0, BR, DR⟩, K⟩ := hrel
        clear BN KN
        have x0 := K.cell g0
        have x1 := K.cell g1
        by_cases hgo2 : (d : Int) < (k : Int)
        · have BRH := hid_of BR
          have DRH := hid_of DR
          have KH := hid_of K
          clear BR DR K
          go_wp2_with fail
          go_loopw [10, 11] (fun i _ wr => ∃ j : Nat, j ≤ m ∧ i = .int .i64 (j : Int) ∧ (∃ f, IntsAt wr q k f ∧ DIn es k lv d j f) ∧ Kept wb wr) (fun i _ _ => m - (intOf i).toNat)
          case atStart => exact ⟨0, by omega, rfl, ⟨_, BRH.out, DRH.out⟩, KH.out⟩
          case round =>
            obtain ⟨j, hj, rfl, ⟨f, BS, DS⟩, K2⟩ := hrel
            clear BRH DRH KH x0 x1
            have x1 := K2.cell g1
            by_cases hgo3 : (j : Int) < (m : Int)
            · obtain ⟨b, off, rfl, hc⟩ := HE2.out.cell (by omega)
              obtain ⟨d1, d2, d3, d4⟩ := hc j (by omega)
              replace d1 := K2.cell d1
              replace d2 := K2.cell d2
              replace d3 := K2.cell d3
              replace d4 := K2.cell d4
              clear hc
              have hkl : j < es.length := by have := HL.out; omega
              have hmem : edAt es j ∈ es := by
                have : edAt es j = es[j] := by simp [edAt, List.getD, hkl]
                rw [this]; exact List.getElem_mem hkl
              have RG := hrg.out _ hmem
              obtain ⟨x, hfe⟩ : ∃ f : Nat, (edAt es j).f = (f : Int) := ⟨(edAt es j).f.toNat, by omega⟩
              obtain ⟨y, hte⟩ : ∃ t : Nat, (edAt es j).t = (t : Int) := ⟨(edAt es j).t.toNat, by omega⟩
              rw [hfe, hte] at RG
              have hfn : x < k := by omega
              have htn : y < k := by omega
              have hfi : (x : Int) < (k : Int) := by omega
              have hti : (y : Int) < (k : Int) := by omega
              have SY : Hid (f x = (d : Int) → f y < 0 → DIn es k lv d (j + 1) (fun j => if j = y then (d : Int) + 1 else f j)) := fun u v => DS.set LS.out hfe hte hmem hfn htn u v
              have SN : Hid (¬ (f x = (d : Int) ∧ f y < 0) → DIn es k lv d (j + 1) f) := fun u => DS.keep hfe hte hfn htn u
              rw [hfe] at d1
              rw [hte] at d2
              generalize (edAt es j).c = ec at d3
              generalize (edAt es j).k = ek at d4
              have KE : Kept wr (wr.alloc (Obj.cells #[.int .i64 (x : Int), .int .i64 (y : Int), .int .i64 ec, .int .i64 ek] 42)) := (Kept.refl wr).alloc _
              have e0 : (wr.alloc (Obj.cells #[.int .i64 (x : Int), .int .i64 (y : Int), .int .i64 ec, .int .i64 ek] 42)).cell? ⟨wr.heap.size, 0, none⟩ = some (.int .i64 (x : Int)) := by simp [go_sem]
              have e1 : (wr.alloc (Obj.cells #[.int .i64 (x : Int), .int .i64 (y : Int), .int .i64 ec, .int .i64 ek] 42)).cell? ⟨wr.heap.size, 1, none⟩ = some (.int .i64 (y : Int)) := by simp [go_sem]
              have cf := KE.cell (BS.cell hfn)
              have ct := KE.cell (BS.cell htn)
              have BW := hid_of (BS.kept KE)
              have KW := hid_of (K2.trans KE)
              clear hmem RG hfe hte BS DS
              go_upto_region 17 with fail
              generalize hW4 : wr.alloc (Obj.cells #[.int .i64 (x : Int), .int .i64 (y : Int), .int .i64 ec, .int .i64 ek] 42) = W4 at KE e0 e1 cf ct BW KW ⊢
              clear hW4 KE d1 d2 d3 d4 K2 x1
              obtain ⟨lf, hlf⟩ : ∃ z, f x = z := ⟨_, rfl⟩
              obtain ⟨lt, hlt⟩ : ∃ z, f y = z := ⟨_, rfl⟩
              rw [hlf] at cf SY SN
              rw [hlt] at ct SY SN
              clear hlf hlt
              have fy := World.rowIs.frozen BW.out y
              by_cases q1 : lf = (d : Int)
              · subst q1
                by_cases q2 : lt < 0
                · have DN := hid_of (SY.out rfl q2)
                  have BN : Hid (IntsAt (W4.setCell ⟨q, y, none⟩ (.int .i64 ((d : Int) + 1))) q k (fun j => if j = y then (d : Int) + 1 else f j)) := IntsAt.set BW.out y _
                  have KN : Hid (Kept wb (W4.setCell ⟨q, y, none⟩ (.int .i64 ((d : Int) + 1)))) := KW.out.setCell (p := ⟨q, y, none⟩) (by rw [HQ.out]; exact Nat.le_refl _) _
                  have hwr : IntKind.i64.wrap ((d : Int) + 1) = (d : Int) + 1 := by rw [IntKind.wrap_i64]; first | omega | (unfold wrap64; omega)
                  clear SY SN BW KW
                  go_wp2_with fail
                  go_roundw
                  case rel => exact ⟨j + 1, by omega, by go_num, ⟨_, BN.out, DN.out⟩, KN.out⟩
                  case measure => simp [intOf]; omega
                · have DN := hid_of (SN.out (fun t => q2 t.2))
                  clear SY SN
                  go_wp2_with fail
                  go_roundw
                  case rel => exact ⟨j + 1, by omega, by go_num, ⟨_, BW.out, DN.out⟩, KW.out⟩
                  case measure => simp [intOf]; omega
              · have DN := hid_of (SN.out (fun t => q1 t.1))
                have qe : (lf == (d : Int)) = false := by simpa using q1
                clear SY SN
                go_wp2_with fail
                go_roundw
                case rel => exact ⟨j + 1, by omega, by go_num, ⟨_, BW.out, DN.out⟩, KW.out⟩
                case measure => simp [intOf]; omega
            · obtain rfl : j = m := by omega
              have DN : Hid (DIn es k lv (d + 1) 0 f) := DIn.next LS.out (by rw [← HL.out]; exact DS)
              have BF := hid_of BS
              have KF := hid_of K2
              clear BS DS K2 HE2
              go_wp2_with fail
              go_roundw
              case rel => exact ⟨d + 1, by omega, by go_num, ⟨_, BF.out, DN.out⟩, KF.out⟩
              case measure => simp [intOf]; omega
        · obtain rfl : d = k := by omega
          have BF : Hid (IntsAt wr q d lv) := BR.congr (fun u hu => by rw [DR.last LS.out u hu])
          have KF := hid_of (KB.out.trans K)
          clear BR DR K HE2
          go_wp2_with fail
          go_ret2
          exact ⟨q, rfl, BF.out, by have := KB.out.size; have := HQ.out; omega, KF.out⟩

set_option maxRecDepth 100000 in
set_option maxHeartbeats 8000000 in
theorem partsN_calls (n : Nat) (hn : n ≤ 1024) (ao : Option Addr) (m cap : Nat) (es : List Ed) (w : World) (h : ERow w ao m cap es) (hf : Hid (faultOf (n : Int) es = (0, 0))) (hrg : Hid (∀ e ∈ es, 0 ≤ e.f ∧ e.f < (n : Int) ∧ 0 ≤ e.t ∧ e.t < (n : Int))) :
    Calls Try.prog 20 #[.agg #[.int .i64 (n : Int), .slice ao m cap]] w fun r w' => ∃ g c cnt, r = .returned (.tuple #[.slice (some ⟨g, 0, none⟩) n n, .int .i64 0]) ∧ IntsAt w' g n c ∧ NumOf n (Way (outs (both es))) c cnt ∧ w.heap.size ≤ g ∧ Kept w w' := by
  have hmkI : ∀ w : World, (Instr.makeSlice 26 (.int .i64 (n : Int)) (.int .i64 (n : Int))).run Try.prog w = .ok (.slice (some ⟨w.heap.size, 0, none⟩) n n) (w.alloc (.cells (madeCells #[.int .i64 0] n) 3)) :=
    fun w => run_make_row' 26 3 (.int .i64 0) 8 Try.underlying26 infoJ0 rfl .i64 .i64 n (by omega) (by omega) w
  have KG : Kept w (w.alloc (Obj.cells #[.int .i64 (n : Int), .slice ao m cap] 24)) := (Kept.refl w).alloc _
  have g0 : (w.alloc (Obj.cells #[.int .i64 (n : Int), .slice ao m cap] 24)).cell? ⟨w.heap.size, 0, none⟩ = some (.int .i64 (n : Int)) := by simp [go_sem]
  have g1 : (w.alloc (Obj.cells #[.int .i64 (n : Int), .slice ao m cap] 24)).cell? ⟨w.heap.size, 1, none⟩ = some (.slice ao m cap) := by simp [go_sem]
  have HE := hid_of (h.kept KG)
  have HL := hid_of h.len
  have hr := h.room
  have hmx := h.most
  unfold maxLen at hmx
  clear h
  go_enter Try.func20, Try.ntmps20
  go_wp2_with fail
  generalize hW0 : w.alloc (Obj.cells #[.int .i64 (n : Int), .slice ao m cap] 24) = W0 at KG g0 g1 HE ⊢
  clear hW0
  refine (checkR_calls (n : Int) ao m cap es W0 HE.out 0 0 hf).mono ?_
  rintro v wa ⟨rfl, K1⟩
  replace g0 := K1.cell g0
  replace g1 := K1.cell g1
  have HE1 := hid_of (HE.out.kept K1)
  have KA := hid_of (KG.trans K1)
  clear K1 KG HE
  have I1 := World.rowIs_made wa (.int .i64 0) n 3
  have K1 : Kept wa (wa.alloc (.cells (madeCells #[.int .i64 0] n) 3)) := (Kept.refl wa).alloc _
  have I1H : Hid (IntsAt (wa.alloc (.cells (madeCells #[.int .i64 0] n) 3)) wa.heap.size n (fun v => if v < 0 then (v : Int) else 0)) := World.rowIs.congr I1 (fun i _ => by simp)
  have K1H := hid_of K1
  clear I1 K1
  go_upto_region 5 with fail
  generalize hW1 : wa.alloc (.cells (madeCells #[.int .i64 0] n) 3) = W1 at *
  clear hW1 hmkI
  obtain ⟨g, hg⟩ : ∃ g, wa.heap.size = g := ⟨_, rfl⟩
  rw [hg] at I1H ⊢
  have HG := hid_of hg
  clear hg
  go_wp2_with fail
  go_loopw [7] (fun i wr => ∃ k : Nat, k ≤ n ∧ i = .int .i64 (k : Int) ∧ IntsAt wr g n (fun v => if v < k then (v : Int) else 0) ∧ Kept wa wr) (fun i _ => n - (intOf i).toNat)
  case atStart => exact ⟨0, by omega, rfl, I1H.out, K1H.out⟩
  case round =>
    obtain ⟨k, hk, rfl, I2, K2⟩ := hrel
    clear I1H K1H
    have x0 := K2.cell g0
    by_cases hgo : (k : Int) < (n : Int)
    · have hkn : k < n := by omega
      have ck := I2.cell hkn
      have fk := World.rowIs.frozen I2 k
      have IN : Hid (IntsAt (wr.setCell ⟨g, k, none⟩ (.int .i64 (k : Int))) g n (fun v => if v < k + 1 then (v : Int) else 0)) := (IntsAt.set I2 k (k : Int)).congr (fun v _ => by
        dsimp only
        by_cases e : v = k
        · rw [if_pos e, if_pos (by omega), e]
        · by_cases e2 : v < k
          · rw [if_neg e, if_pos e2, if_pos (by omega)]
          · rw [if_neg e, if_neg e2, if_neg (by omega)])
      have KN : Hid (Kept wa (wr.setCell ⟨g, k, none⟩ (.int .i64 (k : Int)))) := K2.setCell (p := ⟨g, k, none⟩) (by rw [HG.out]; exact Nat.le_refl _) _
      generalize (if k < k then (k : Int) else 0) = z0 at ck
      clear I2 K2
      go_wp2_with fail
      go_roundw
      case rel => exact ⟨k + 1, by omega, by go_num, IN.out, KN.out⟩
      case measure => simp [intOf]; omega
    · obtain rfl : k = n := by omega
      have I3 : Hid (IntsAt wr g k (fun v => ((rnd es 0 v : Nat) : Int))) := World.rowIs.congr I2 (fun v hv => by dsimp only; rw [if_pos hv]; rfl)
      have K3 := hid_of K2
      clear I2 K2
      go_wp2_with fail
      go_loopw [8] (fun i wr => ∃ r : Nat, r ≤ k ∧ i = .int .i64 (r : Int) ∧ IntsAt wr g k (fun v => ((rnd es r v : Nat) : Int)) ∧ Kept wa wr) (fun i _ => k - (intOf i).toNat)
      case atStart => exact ⟨0, by omega, rfl, I3.out, K3.out⟩
      case round =>
        obtain ⟨r, hrr, rfl, I4, K4⟩ := hrel
        clear I3 K3 x0
        have x0 := K4.cell g0
        by_cases hgo : (r : Int) < (k : Int)
        · have I5 : Hid (IntsAt wr g k (fun v => ((swp (rnd es r) es 0 v : Nat) : Int))) := I4
          have K5 := hid_of K4
          clear I4 K4
          go_wp2_with fail
          go_loopw [9] (fun i wr => ∃ j : Nat, j ≤ m ∧ i = .int .i64 (j : Int) ∧ IntsAt wr g k (fun v => ((swp (rnd es r) es j v : Nat) : Int)) ∧ Kept wa wr) (fun i _ => m - (intOf i).toNat)
          case atStart => exact ⟨0, by omega, rfl, I5.out, K5.out⟩
          case round =>
            obtain ⟨j, hj, rfl, I6, K6⟩ := hrel
            clear I5 K5
            have x1 := K6.cell g1
            by_cases hgo2 : (j : Int) < (m : Int)
            · obtain ⟨b, off, rfl, hc⟩ := (HE1.out.kept K6).cell (by omega)
              obtain ⟨d1, d2, -, -⟩ := hc j (by omega)
              have hjl : j < es.length := by have := HL.out; omega
              have hm : edAt es j ∈ es := by
                have : edAt es j = es[j] := by simp [edAt, List.getD, hjl]
                rw [this]; exact List.getElem_mem hjl
              have RG := hrg.out _ hm
              obtain ⟨a, ha⟩ : ∃ a : Nat, (edAt es j).f = (a : Int) := ⟨(edAt es j).f.toNat, by omega⟩
              obtain ⟨t, ht⟩ : ∃ t : Nat, (edAt es j).t = (t : Int) := ⟨(edAt es j).t.toNat, by omega⟩
              have han : a < k := by rw [ha] at RG; omega
              have htn : t < k := by rw [ht] at RG; omega
              have SU : Hid (swp (rnd es r) es (j + 1) = rlx (swp (rnd es r) es j) a t) := by
                show rlx (swp (rnd es r) es j) (edAt es j).f.toNat (edAt es j).t.toNat = _
                rw [ha, ht, Int.toNat_natCast, Int.toNat_natCast]
              rw [ha] at d1
              rw [ht] at d2
              have hai : (a : Int) < (k : Int) := by omega
              have hti : (t : Int) < (k : Int) := by omega
              obtain ⟨f, hf'⟩ : ∃ f, swp (rnd es r) es j = f := ⟨_, rfl⟩
              rw [hf'] at I6 SU
              have ca := I6.cell han
              have ct := I6.cell htn
              have I6H := hid_of I6
              have K6H := hid_of K6
              clear hc hm RG ha ht hf' I6 K6
              by_cases hlt : f a < f t
              · have hlti : ((f a : Nat) : Int) < ((f t : Nat) : Int) := by omega
                have ES : rlx f a t = fun x => if x = t then f a else f x := by unfold rlx; rw [if_pos hlt]
                have SU2 := hid_of (SU.out.trans ES)
                generalize hfa : ((f a : Nat) : Int) = fa at ca hlti
                generalize hft : ((f t : Nat) : Int) = ft at ct hlti
                have HFA := hid_of hfa
                clear hlt ES hfa hft
                go_wp2_with fail
                go_quiet (fail)
                have KD : Kept wr (wr.drewN nq) := (Kept.refl wr).drewN nq
                have I7 := I6H.out.kept KD
                have K7 := K6H.out.trans KD
                replace ca := KD.cell ca
                replace ct := KD.cell ct
                have ft' := World.rowIs.frozen I7 t
                generalize wr.drewN nq = W7 at ca ct I7 K7 ft' ⊢
                have IN : Hid (IntsAt (W7.setCell ⟨g, t, none⟩ (.int .i64 fa)) g k (fun v => ((swp (rnd es r) es (j + 1) v : Nat) : Int))) := (IntsAt.set I7 t fa).congr (fun x _ => by
                  dsimp only
                  rw [SU2.out]
                  dsimp only
                  by_cases e : x = t
                  · rw [if_pos e, if_pos e, HFA.out]
                  · rw [if_neg e, if_neg e])
                have KN : Hid (Kept wa (W7.setCell ⟨g, t, none⟩ (.int .i64 fa))) := K7.setCell (p := ⟨g, t, none⟩) (by rw [HG.out]; exact Nat.le_refl _) _
                clear I7 K7 KD I6H K6H
                go_wp2_with fail
                go_roundw
                case rel => exact ⟨j + 1, by omega, by go_num, IN.out, KN.out⟩
                case measure => simp [intOf]; omega
              · have hlti : ¬ ((f a : Nat) : Int) < ((f t : Nat) : Int) := by omega
                have ES : rlx f a t = fun x => if x = a then f t else f x := by unfold rlx; rw [if_neg hlt]
                have SU2 := hid_of (SU.out.trans ES)
                generalize hfa : ((f a : Nat) : Int) = fa at ca hlti
                generalize hft : ((f t : Nat) : Int) = ft at ct hlti
                have HFT := hid_of hft
                clear hlt ES hfa hft
                go_wp2_with fail
                go_quiet (fail)
                have KD : Kept wr (wr.drewN nq) := (Kept.refl wr).drewN nq
                have I7 := I6H.out.kept KD
                have K7 := K6H.out.trans KD
                replace ca := KD.cell ca
                replace ct := KD.cell ct
                have fa' := World.rowIs.frozen I7 a
                generalize wr.drewN nq = W7 at ca ct I7 K7 fa' ⊢
                have IN : Hid (IntsAt (W7.setCell ⟨g, a, none⟩ (.int .i64 ft)) g k (fun v => ((swp (rnd es r) es (j + 1) v : Nat) : Int))) := (IntsAt.set I7 a ft).congr (fun x _ => by
                  dsimp only
                  rw [SU2.out]
                  dsimp only
                  by_cases e : x = a
                  · rw [if_pos e, if_pos e, HFT.out]
                  · rw [if_neg e, if_neg e])
                have KN : Hid (Kept wa (W7.setCell ⟨g, a, none⟩ (.int .i64 ft))) := K7.setCell (p := ⟨g, a, none⟩) (by rw [HG.out]; exact Nat.le_refl _) _
                clear I7 K7 KD I6H K6H
                go_wp2_with fail
                go_roundw
                case rel => exact ⟨j + 1, by omega, by go_num, IN.out, KN.out⟩
                case measure => simp [intOf]; omega
            · obtain rfl : j = m := by omega
              have I7 : Hid (IntsAt wr g k (fun v => ((rnd es (r + 1) v : Nat) : Int))) := by
                rw [HL.out] at I6; exact I6
              have K7 := hid_of K6
              clear I6 K6
              go_wp2_with fail
              go_roundw
              case rel => exact ⟨r + 1, by omega, by go_num, I7.out, K7.out⟩
              case measure => simp [intOf]; omega
        · obtain rfl : r = k := by omega
          have NC := hid_of (numR_calls r hn (rnd es r) (fun v _ => rnd_le es r v) g wr I4)
          have K5 := hid_of (KA.out.trans K4)
          have NUM := hid_of (dnr_num (rnd_least hrg.out) (fun u v _ _ h => h.symm_of (fun _ _ h => both_symm hrg.out h)) (fun u v x _ _ _ a b => a.trans b))
          clear I4 K4
          go_wp2_with fail
          refine NC.out.mono ?_
          rintro rr w5 ⟨g', rfl, I5, K6, hg'⟩
          have HGN := hid_of hg'
          clear hg'
          have FI := hid_of I5
          have FK := hid_of (K5.out.trans K6)
          clear I5 K6 NC
          go_wp2_with fail
          go_ret2
          exact ⟨g', _, _, rfl, FI.out, NUM.out, by have := K5.out.size; have := HGN.out; omega, FK.out⟩
end Go.Proofs.Ytjheiaegpoppaaa
namespace Go.Proofs.Ytjheiaegpoppaaa
open Go.RowKit

/-- The mark behind the edges. -/
def e7 : Ed := ⟨0, 0, -7, 0⟩

theorem owns_room {w : World} {base e size n : Nat} {g cap : Nat} {xs : List Value} (h : w.ownsRow base e size (.slice (some ⟨g, 0, none⟩) n cap) n xs) : n ≤ cap ∧ cap ≤ 9223372036854775807 := by
  rcases h.2 with ⟨t, _⟩ | ⟨g', cap', cur, t, _, _, a, b, _⟩
  · simp at t
  · simp only [Value.slice.injEq, Option.some.injEq, Addr.mk.injEq, and_true, true_and] at t
    obtain ⟨rfl, rfl⟩ := t
    unfold maxLen at b
    exact ⟨a, by omega⟩

theorem keep_box {W2 w5 : World} {o : Obj} {row : Option Nat} {b k : Nat} {v : Value} (grow : (W2.drew.alloc o).grownBy w5 row) (hne : row ≠ some b) (h : W2.cell? ⟨b, k, none⟩ = some v) : w5.cell? ⟨b, k, none⟩ = some v ∧ w5.frozen? ⟨b, k, none⟩ = W2.frozen? ⟨b, k, none⟩ := by
  have K : Kept W2 (W2.drew.alloc o) := (Kept.refl W2).drew.alloc o
  have lb : b < W2.heap.size := World.block_lt_of_cell? _ _ h
  have lb2 : b < (W2.drew.alloc o).heap.size := Nat.lt_of_lt_of_le lb K.size
  refine ⟨grow.cell (K.cell h) (fun e => hne e.symm), ?_⟩
  rw [World.frozen?_of_block (a := ⟨b, k, none⟩) (grow.block b lb2 (fun e => hne e.symm))]
  exact Below.frozen (p := ⟨b, k, none⟩) K lb

/-- The row without the mark. -/
theorem ERow.of_more {w : World} {base : Nat} {g n cap : Nat} {es : List Ed} {x : Ed} (hl : es.length = n) (h : w.ownsRow base 42 4 (.slice (some ⟨g, 0, none⟩) (n + 1) cap) (n + 1) (evals es ++ ecells x)) : ERow w (some ⟨g, 0, none⟩) n cap es := by
  obtain ⟨r1, r2⟩ := owns_room h
  refine ⟨hl.symm, by omega, by unfold maxLen; omega, fun _ => ⟨g, 0, rfl, fun i hi => ?_⟩⟩
  obtain ⟨v1, v2, v3, v4⟩ := evals_get es i (by omega)
  have hh : ∀ j, j < n * 4 → w.cell? ⟨g, j, none⟩ = (evals es)[j]? := fun j hj => by
    rw [h.cellAt j (by omega), List.getElem?_append_left (by rw [evals_len]; omega)]
  rw [Nat.zero_add]
  exact ⟨(hh _ (by omega)).trans v1, (hh _ (by omega)).trans v2, (hh _ (by omega)).trans v3, (hh _ (by omega)).trans v4⟩

/-- The step of an append of one or more, by the wide bound. -/
theorem step_append_wideK {Pr : Program} {w : World} {ops : Array Oper} {o : Oper} {a : Act} {K : Act → World → Prop} {Q : Exit → Act → World → Prop} {E : Prop} (hgd : o.guard = none) (s x : Operand) (t : TypeId)
    (ho : o.op = .call { callee := .builtin .append, args := #[s, x], argTypes := #[t, t] })
    (base : Nat) (e : TypeId) (i : TypeInfo) (z : Value) (size bytes : Nat) (ht : Pr.underlying t = some (.slice e)) (hi : Pr.info? e = some i) (hz : i.zero = some z)
    (hsize : i.size = size) (hby : i.bytes = bytes) (hzs : z.cells.size = size) (hsz : 0 < size)
    (v : Value) (n : Nat) (xs : List Value) (hs : a.eval s = v) (hown : w.ownsRow base e size v n xs)
    (ad : Addr) (m c : Nat) (news : List Value) (hx : a.eval x = .slice (some ad) m c) (hl : news.length = m * size) (hnews : ∀ j u, news[j]? = some u → w.cell? (ad.add j) = some u) (h1 : ∀ u ∈ news, u.oneCell' = true)
    (hm : 0 < m) (h63 : n + m ≤ maxLen) (hbytes : ((n + m) + (n + m) / 4 + 192) * bytes ≤ 281474976710656) (hbase : base ≤ w.heap.size)
    (h : ∀ g cap w', w'.ownsRow base e size (.slice (some ⟨g, 0, none⟩) (n + m) cap) (n + m) (xs ++ news) → w.grownBy w' v.ownBlock → K (a.put o.dst (.slice (some ⟨g, 0, none⟩) (n + m) cap)) w') :
    if Region.wanted o (yielded ops a.tmps) = true then Oper.wp Pr o a w K Q else E := by
  have hw : Region.wanted o (yielded ops a.tmps) = true := by simp [Region.wanted, hgd]
  rw [if_pos hw]
  refine wp_append_own_wide w s x t ho base e i z size bytes ht hi hz hsize hby hzs hsz v n xs hs hown ad m c news hx hl hnews h1 h63 hbytes hbase (fun v' w' h2 h3 _ => ?_)
  have h2' := h2
  rcases h2'.2 with ⟨_, h0⟩ | ⟨g, cap, cur, e1, _⟩
  · exact absurd h0 (by omega)
  · subst e1
    exact h g cap w' h2 h3

/-- A row of edges is no box. -/
theorem row_no_box {w : World} {base g b n cap : Nat} {es : List Ed} {x : Ed} {v : Value} (hl : es.length = n) (h : w.ownsRow base 42 4 (.slice (some ⟨g, 0, none⟩) (n + 1) cap) (n + 1) (evals es ++ ecells x)) (c : w.cell? ⟨b, 1, none⟩ = some v) (hv : ∀ z, v ≠ .int .i64 z) : g ≠ b := fun e => by
  subst e
  have e1 : evals es ++ ecells x = evals (es ++ [x]) := by rw [evals_app]; simp [evals]
  have hc := h.cellAt 1 (by omega)
  rw [e1] at hc
  have h0 := (evals_get (es ++ [x]) 0 (by simp)).2.1
  simp only [Nat.zero_mul, Nat.zero_add] at h0
  rw [h0, c] at hc
  exact hv _ (by simpa using hc)

/-- A row of int of its own in a block from B on, or none. -/
def Rw (w : World) (so : Option Addr) (l : Nat) (f : Nat → Int) (B : Nat) : Prop := (so = none ∧ l = 0) ∨ ∃ g, so = some ⟨g, 0, none⟩ ∧ IntsAt w g l f ∧ B ≤ g
theorem Rw.nil (w : World) (f : Nat → Int) (B : Nat) : Rw w none 0 f B := .inl ⟨rfl, rfl⟩
theorem Rw.own {w : World} {g l : Nat} {f : Nat → Int} {B : Nat} (h : IntsAt w g l f) (hb : B ≤ g) : Rw w (some ⟨g, 0, none⟩) l f B := .inr ⟨g, rfl, h, hb⟩
theorem Rw.kept {w w' : World} {so : Option Addr} {l B : Nat} {f : Nat → Int} (h : Rw w so l f B) (K : Kept w w') : Rw w' so l f B := by
  rcases h with h | ⟨g, e, I, b⟩
  · exact .inl h
  · exact .inr ⟨g, e, I.kept K, b⟩
theorem Rw.ch {F : Nat → Prop} {w w' : World} {so : Option Addr} {l B : Nat} {f : Nat → Int} (h : Rw w so l f B) (C : Ch F w w') (hF : ∀ g, so = some ⟨g, 0, none⟩ → ¬ F g) : Rw w' so l f B := by
  rcases h with h | ⟨g, e, I, b⟩
  · exact .inl h
  · exact .inr ⟨g, e, I.ch C (hF g e), b⟩
theorem Rw.lt {w : World} {so : Option Addr} {l B : Nat} {f : Nat → Int} (h : Rw w so l f B) : ∀ g, so = some ⟨g, 0, none⟩ → B ≤ g ∧ g < w.heap.size := by
  intro g e
  rcases h with ⟨h, _⟩ | ⟨g', e', I, b⟩
  · rw [h] at e; cases e
  · rw [e'] at e
    simp only [Option.some.injEq, Addr.mk.injEq, and_true] at e
    subst e
    exact ⟨b, I.lt⟩
theorem Rw.row {w : World} {so : Option Addr} {l B : Nat} {f : Nat → Int} (h : Rw w so l f B) (hl : l ≤ 1024) : JRow w so l l ((List.range l).map f) := by
  have hm : l ≤ maxLen := by unfold maxLen; omega
  rcases h with ⟨rfl, rfl⟩ | ⟨g, rfl, I, b⟩
  · exact ⟨rfl, Nat.le_refl _, hm, fun h => by omega⟩
  · exact ⟨by simp, Nat.le_refl _, hm, fun _ => ⟨g, 0, rfl, fun i hi => by
      rw [Nat.zero_add, I.cell hi]
      simp [List.getD, hi]⟩⟩

end Go.Proofs.Ytjheiaegpoppaaa
namespace Go.Proofs.Ytjheiaegpoppaaa
open Go.RowKit

/-- A call answers a row and a number. -/
def AnsRow (fn : Nat) (more : Array Value) (nodes : Int) (n : Nat) (es : List Ed) (l : Nat) (f : Nat → Int) : Prop :=
  ∀ (W : World) (bo : Option Addr) (cb : Nat), ERow W bo n cb es → (bo = none → n = 0 ∧ cb = 0) → Calls Try.prog fn (#[.agg #[.int .i64 nodes, .slice bo n cb]] ++ more) W fun r W' => ∃ so e, r = .returned (.tuple #[.slice so l l, .int .i64 e]) ∧ Rw W' so l f W.heap.size ∧ Kept W W'
/-- A call answers some row and a number. -/
def AnsSome (fn : Nat) (nodes : Int) (n : Nat) (es : List Ed) (l : Nat) : Prop :=
  ∀ (W : World) (bo : Option Addr) (cb : Nat), ERow W bo n cb es → (bo = none → n = 0 ∧ cb = 0) → Calls Try.prog fn #[.agg #[.int .i64 nodes, .slice bo n cb]] W fun r W' => ∃ so e f, r = .returned (.tuple #[.slice so l l, .int .i64 e]) ∧ Rw W' so l f W.heap.size ∧ Kept W W'
/-- A call answers. -/
def AnsAny (fn : Nat) (nodes : Int) (n : Nat) (es : List Ed) : Prop :=
  ∀ (W : World) (bo : Option Addr) (cb : Nat), ERow W bo n cb es → (bo = none → n = 0 ∧ cb = 0) → Calls Try.prog fn #[.agg #[.int .i64 nodes, .slice bo n cb]] W fun r W' => ∃ v, r = .returned v ∧ Kept W W'

set_option maxRecDepth 100000 in
set_option linter.unusedSimpArgs false in
set_option maxHeartbeats 4000000 in
theorem walkKeepsWalk (nodes : Int) (ao : Option Addr) (n cap : Nat) (es : List Ed) (w : World) (h : ERow w ao n cap es) (hb : n * 32 ≤ 140737488355328) (hnil : ao = none → n = 0 ∧ cap = 0) (s : Int)
    (lL lP lS : Nat) (fL fP : Nat → Int) (hlL : lL ≤ 1024) (hlP : lP ≤ 1024) (hlS : lS ≤ 1024)
    (CL : Hid (AnsRow 23 #[.int .i64 s] nodes n es lL fL)) (CV : Hid (AnsAny 11 nodes n es)) (CP : Hid (AnsRow 19 #[] nodes n es lP fP)) (CS : Hid (AnsSome 17 nodes n es lS)) (CO : Hid (AnsAny 14 nodes n es))
    (CLR : Hid (AnsRow 26 #[.int .i64 s] nodes n es lL fL)) (CPR : Hid (AnsRow 20 #[] nodes n es lP fP)) :
    Calls Try.prog 9 #[.agg #[.int .i64 nodes, .slice ao n cap], .int .i64 s] w fun r w' => r = .returned (.bool true) ∧ Kept w w' := by
  have hnot : ∀ (x : Bool) (w : World), (Op.unary .not (.bool x)).run Try.prog w = .ok (.bool (!x)) w := fun _ _ => rfl
  obtain ⟨i0, hi, hz0, hz1, hz2⟩ := infoE
  have KG : Kept w (w.alloc (Obj.cells #[.int .i64 nodes, .slice ao n cap] 24)) := (Kept.refl w).alloc _
  have g0 : (w.alloc (Obj.cells #[.int .i64 nodes, .slice ao n cap] 24)).cell? ⟨w.heap.size, 0, none⟩ = some (.int .i64 nodes) := by simp [go_sem]
  have g1 : (w.alloc (Obj.cells #[.int .i64 nodes, .slice ao n cap] 24)).cell? ⟨w.heap.size, 1, none⟩ = some (.slice ao n cap) := by simp [go_sem]
  have HL : Hid (es.length = n) := h.len.symm
  have HNIL := hid_of hnil
  have HBB := hid_of hb
  have hr0 := h.room
  have hm0 := h.most
  unfold maxLen at hm0
  clear hnil
  go_enter Try.func9, Try.ntmps9
  go_wp2_with fail
  refine (awake_calls _).mono ?_
  rintro r wa ⟨rfl, K1⟩
  have ga0 := K1.cell g0
  have ga1 := K1.cell g1
  have HA := hid_of (h.kept (KG.trans K1))
  have KA := hid_of (KG.trans K1)
  have hwa : w.heap.size < wa.heap.size := World.block_lt_of_cell? _ _ ga0
  clear h K1 KG g0 g1
  go_wp2_with fail
  refine (copyR_calls nodes ao n cap es wa HA.out (by omega)).mono ?_
  rintro r w1 ⟨ao1, cap1, rfl, O1, K1⟩
  have hw1 := K1.size
  have K2 := K1.alloc (Obj.cells #[.int .i64 nodes, .slice ao1 n cap1] 24)
  have s0 : (w1.alloc (Obj.cells #[.int .i64 nodes, .slice ao1 n cap1] 24)).cell? ⟨w1.heap.size, 0, none⟩ = some (.int .i64 nodes) := by simp [go_sem]
  have s1 : (w1.alloc (Obj.cells #[.int .i64 nodes, .slice ao1 n cap1] 24)).cell? ⟨w1.heap.size, 1, none⟩ = some (.slice ao1 n cap1) := by simp [go_sem]
  have s2 : (w1.alloc (Obj.cells #[.int .i64 nodes, .slice ao1 n cap1] 24)).frozen? ⟨w1.heap.size, 1, none⟩ = false := by simp [go_sem]
  have hsz : (w1.alloc (Obj.cells #[.int .i64 nodes, .slice ao1 n cap1] 24)).heap.size = w1.heap.size + 1 := by simp
  have O2 := hid_of (O1.alloc (Obj.cells #[.int .i64 nodes, .slice ao1 n cap1] 24))
  have LT1 := hid_of (fun k e => (O1.lt k e).2)
  have c0 := K2.cell ga0
  have c1 := K2.cell ga1
  have K2H := hid_of K2
  clear O1 K1 K2
  go_upto_region 4 with fail
  generalize hW2 : w1.alloc (Obj.cells #[.int .i64 nodes, .slice ao1 n cap1] 24) = W2 at s0 s1 s2 hsz O2 c0 c1 K2H ⊢
  clear hW2
  generalize w1.heap.size = b3 at *
  have HSZ := hid_of hsz
  clear hsz
  go_cut [] (fun wx => ∃ g1 c1, wx.cell? ⟨b3, 0, none⟩ = some (.int .i64 nodes) ∧ wx.cell? ⟨b3, 1, none⟩ = some (.slice (some ⟨g1, 0, none⟩) n c1) ∧ wx.ownsRow wa.heap.size 42 4 (.slice (some ⟨g1, 0, none⟩) (n + 1) c1) (n + 1) (evals es ++ ecells e7) ∧ g1 ≠ b3 ∧ Kept wa wx)
  case first =>
    have q1 : w.heap.size < W2.heap.size := World.block_lt_of_cell? _ _ c1
    have q2 : b3 < W2.heap.size := World.block_lt_of_cell? _ _ s0
    have NW := hid_of (cell_new4 W2.drew 42 e7)
    have HM := hid_of (World.ownsRow.alloc O2.out.drew (Obj.cells #[.int .i64 0, .int .i64 0, .int .i64 (-7), .int .i64 0] 42))
    have B1 : Hid (n + 1 ≤ maxLen) := by show n + 1 ≤ maxLen; unfold maxLen; omega
    have B2 : Hid (((n + 1) + (n + 1) / 4 + 192) * 32 ≤ 281474976710656) := by show _ ≤ _; have := HBB.out; omega
    have B3 : Hid (wa.heap.size ≤ (W2.drew.alloc (Obj.cells #[.int .i64 0, .int .i64 0, .int .i64 (-7), .int .i64 0] 42)).heap.size) := by show wa.heap.size ≤ _; have := HSZ.out; simp; omega
    go_region_law ((refine step_append_wideK (by rfl) (.tmp 25) (.tmp 27) 22 (by rfl) wa.heap.size 42 i0 _ 4 32 Try.underlying22 hi hz0 hz1 hz2 rfl (by decide) _ _ _ (by rfl) HM.out ⟨W2.heap.size, 0, none⟩ 1 1 (ecells e7) (by rfl) rfl NW.out (ecells_one _) (by decide) B1.out B2.out B3.out ?_; intro g5 c5 w5 own grow; obtain ⟨rm, mx⟩ := owns_room own; have rm2 : n ≤ c5 := (by omega); have rm3 : (n : Int) ≤ (c5 : Int) := (by omega); have rm4 : ¬ (c5 : Int) < (n : Int) := (by omega); have KX : Hid (Kept wa w5) := hid_of (Below.grown (K2H.out.drew.alloc _) grow (K2H.out.drew.alloc _).size (fun j hj => (O2.out.lt j hj).1)); have nb : (Value.slice ao1 n cap1).ownBlock ≠ some b3 := fun e => Nat.lt_irrefl _ (LT1.out _ e); have x0 := (keep_box grow nb s0).1; have x1 := (keep_box grow nb s1).1; have x2 := (keep_box grow nb s1).2.trans s2; have y0 := Kept.cell KX.out ga0; have y1 := Kept.cell KX.out ga1; have ON := hid_of own))
    all_goals
      have ng : g5 ≠ b3 := row_no_box HL.out ON.out x1 (fun z t => by cases t)
      have FIN : Hid (∃ g1 c1, (w5.setCell ⟨b3, 1, none⟩ (.slice (some ⟨g5, 0, none⟩) n c5)).cell? ⟨b3, 0, none⟩ = some (.int .i64 nodes) ∧ (w5.setCell ⟨b3, 1, none⟩ (.slice (some ⟨g5, 0, none⟩) n c5)).cell? ⟨b3, 1, none⟩ = some (.slice (some ⟨g1, 0, none⟩) n c1) ∧ (w5.setCell ⟨b3, 1, none⟩ (.slice (some ⟨g5, 0, none⟩) n c5)).ownsRow wa.heap.size 42 4 (.slice (some ⟨g1, 0, none⟩) (n + 1) c1) (n + 1) (evals es ++ ecells e7) ∧ g1 ≠ b3 ∧ Kept wa (w5.setCell ⟨b3, 1, none⟩ (.slice (some ⟨g5, 0, none⟩) n c5))) :=
        ⟨g5, c5, by rw [World.cell?_setCell_other _ _ _ _ (by simp)]; exact x0, World.cell?_setCell_same _ _ _ x1, ownsRow_setCell_other ON.out (fun e => ng (by simpa [Value.ownBlock] using e)) _, ng, Kept.setCell KX.out (p := ⟨b3, 1, none⟩) hw1 _⟩
      clear own grow rm mx rm2 rm3 rm4 KX x0 x1 x2 y0 y1 ON NW HM B1 B2 B3 ng
      go_wp2_with fail
      go_meet
      case rel => exact FIN.out
  case rest =>
  obtain ⟨gm, cm, m0, m1, OM, nm3, KM⟩ := hcut
  have hgm : wa.heap.size ≤ gm := (OM.lt gm rfl).1
  obtain ⟨rm, mx⟩ := owns_room OM
  have EM := hid_of (ERow.of_more HL.out OM)
  have v7 : wc.cell? ⟨gm, n * 4 + 2, none⟩ = some (.int .i64 (-7)) := by
    rw [OM.cellAt _ (by omega), List.getElem?_append_right (by rw [evals_len, HL.out]; omega), evals_len, HL.out, Nat.add_sub_cancel_left]
    rfl
  have KMH := hid_of KM
  clear OM KM O2 c0 c1 K2H LT1 s0 s1 s2 HSZ
  -- the calls on the copy
  go_wp2_with fail
  refine (CL.out wc (some ⟨gm, 0, none⟩) cm EM.out (fun t => by cases t)).mono ?_
  rintro r w2 ⟨sa, ea, rfl, Ra, K2⟩
  have RaH := hid_of Ra
  have KT2 := hid_of K2
  replace m0 := K2.cell m0
  replace m1 := K2.cell m1
  clear Ra K2
  go_wp2_with fail
  refine (CL.out w2 (some ⟨gm, 0, none⟩) cm (EM.out.kept KT2.out) (fun t => by cases t)).mono ?_
  rintro r w3 ⟨sb, eb, rfl, Rb, K3⟩
  have Ra3 := hid_of (RaH.out.kept K3)
  have LAB : Hid (∀ g, sa = some ⟨g, 0, none⟩ → g < w2.heap.size) := fun g e => (RaH.out.lt g e).2
  have RbH := hid_of Rb
  have KT3 := hid_of (KT2.out.trans K3)
  replace m0 := K3.cell m0
  replace m1 := K3.cell m1
  clear Rb K3 RaH KT2 CL
  go_wp2_with fail
  refine (CV.out w3 (some ⟨gm, 0, none⟩) cm (EM.out.kept KT3.out) (fun t => by cases t)).mono ?_
  rintro r w4 ⟨vv, rfl, K4⟩
  have Ra4 := hid_of (Ra3.out.kept K4)
  have Rb4 := hid_of (RbH.out.kept K4)
  have KT4 := hid_of (KT3.out.trans K4)
  replace m0 := K4.cell m0
  replace m1 := K4.cell m1
  clear K4 Ra3 RbH KT3 CV
  go_wp2_with fail
  refine (CP.out w4 (some ⟨gm, 0, none⟩) cm (EM.out.kept KT4.out) (fun t => by cases t)).mono ?_
  rintro r w5 ⟨sc, ec, rfl, Rc, K5⟩
  have Ra5 := hid_of (Ra4.out.kept K5)
  have Rb5 := hid_of (Rb4.out.kept K5)
  have Rc5 := hid_of Rc
  have LA4 : Hid (∀ g, sa = some ⟨g, 0, none⟩ → g < w4.heap.size) := fun g e => (Ra4.out.lt g e).2
  have KT5 := hid_of (KT4.out.trans K5)
  replace m0 := K5.cell m0
  replace m1 := K5.cell m1
  clear K5 Ra4 Rb4 Rc KT4 CP
  go_wp2_with fail
  refine (CS.out w5 (some ⟨gm, 0, none⟩) cm (EM.out.kept KT5.out) (fun t => by cases t)).mono ?_
  rintro r w6 ⟨sd, ed, fS, rfl, Rd, K6⟩
  have Ra6 := hid_of (Ra5.out.kept K6)
  have Rb6 := hid_of (Rb5.out.kept K6)
  have Rc6 := hid_of (Rc5.out.kept K6)
  have Rd6 := hid_of Rd
  have LB5 : Hid (∀ g, sb = some ⟨g, 0, none⟩ → g < w5.heap.size) := fun g e => (Rb5.out.lt g e).2
  have LC5 : Hid (∀ g, sc = some ⟨g, 0, none⟩ → g < w5.heap.size) := fun g e => (Rc5.out.lt g e).2
  have LA5 : Hid (∀ g, sa = some ⟨g, 0, none⟩ → g < w5.heap.size) := fun g e => (Ra5.out.lt g e).2
  have Z5 : Hid (wa.heap.size ≤ w5.heap.size) := hid_of (KMH.out.trans KT5.out).size
  have KT6 := hid_of (KT5.out.trans K6)
  replace m0 := K6.cell m0
  replace m1 := K6.cell m1
  clear K6 Ra5 Rb5 Rc5 Rd KT5 CS
  go_wp2_with fail
  refine (CO.out w6 (some ⟨gm, 0, none⟩) cm (EM.out.kept KT6.out) (fun t => by cases t)).mono ?_
  rintro r w7 ⟨vo, rfl, K7⟩
  have Ra7 := hid_of (Ra6.out.kept K7)
  have Rb7 := hid_of (Rb6.out.kept K7)
  have Rc7 := hid_of (Rc6.out.kept K7)
  have Rd7 := hid_of (Rd6.out.kept K7)
  have KT7 := hid_of (KT6.out.trans K7)
  have KW7 := hid_of (KMH.out.trans KT7.out)
  have t0 := K7.cell m0
  have t1 := K7.cell m1
  have u0 := KW7.out.cell ga0
  have u1 := KW7.out.cell ga1
  have v9 := KT7.out.cell v7
  clear K7 Ra6 Rb6 Rc6 Rd6 KT6 CO m0 m1 v7
  go_wp2_with fail
  have SC := hid_of (fun W' (K : Kept w7 W') => same_calls nodes (some ⟨gm, 0, none⟩) ao n cm cap es W' ((EM.out.kept KT7.out).kept K) ((HA.out.kept KW7.out).kept K))
  have hwr : IntKind.i64.wrap ((n : Int) + 1) = (n : Int) + 1 := by rw [IntKind.wrap_i64]; first | omega | (unfold wrap64; omega)
  have i1 : (n : Int) < (n : Int) + 1 := by omega
  have i2 : n < n + 1 := by omega
  have i3 : (n : Int) + 1 ≤ (cm : Int) := by omega
  have i4 : ((n : Int) + 1).toNat = n + 1 := by omega
  have i5 : ¬ (n : Int) + 1 < 0 := by omega
  have i6 : (0 : Int) ≤ (n : Int) + 1 := by omega
  refine Ord.region [(0, 1), (1, 1), (2, 2), (3, 0), (4, 0), (5, 0), (6, 1), (7, 0), (8, 1), (9, 0), (10, 0), (11, 0), (12, 0), (13, 1), (14, 0), (15, 0), (16, 0), (17, 1), (18, 0), (19, 0)] (fun w' => Kept w7 w') (by kernel_rfl) (by kernel_rfl) (by kernel_rfl) (by kernel_rfl) (fun _ _ d _ _ h => by cases d <;> exact h) ((Kept.refl _).drewN _) ?_
  repeat
    refine Ord.step rfl (fun Ko hK => ?_)
    simp only [Ord.body]
    go_simp
    first
      | (refine hK _ _ ?_; clear hK Ko)
      | (refine ⟨_, fun w' hS => (by have c0 := hS.cell t0; have c1 := hS.cell t1; simp only [c0, c1, Result.andThen]; rfl), hK _ _ ?_⟩; clear hK Ko)
      | (refine ⟨_, fun w' hS => (by have c0 := hS.cell u0; have c1 := hS.cell u1; simp only [c0, c1, Result.andThen]; rfl), hK _ _ ?_⟩; clear hK Ko)
      | (refine ⟨_, fun w' hS => (by have c1 := hS.cell t1; simp only [c1, Result.andThen]; rfl), hK _ _ ?_⟩; clear hK Ko)
      | (refine ⟨_, fun w' hS => (by have c1 := hS.cell u1; simp only [c1, Result.andThen]; rfl), hK _ _ ?_⟩; clear hK Ko)
      | (refine ⟨_, fun w' hS => (by have c1 := hS.cell v9; simp only [c1, Result.andThen]; rfl), hK _ _ ?_⟩; clear hK Ko)
      | (go_at_call 25; refine (SC.out _ ((Kept.refl _).drewN _)).mono ?_; rintro e wA ⟨rfl, KA1⟩; refine ⟨((Kept.refl _).drewN _).trans KA1, hK _ _ ?_⟩; clear hK Ko; have KAH := hid_of (((Kept.refl w7).drewN _).trans KA1); clear KA1)
  refine Ord.done ?_
  have Ra8 := hid_of (Ra7.out.kept KAH.out)
  have Rb8 := hid_of (Rb7.out.kept KAH.out)
  have Rc8 := hid_of (Rc7.out.kept KAH.out)
  have Rd8 := hid_of (Rd7.out.kept KAH.out)
  have KW8 := hid_of (KW7.out.trans KAH.out)
  have p0 := KAH.out.cell u0
  have p1 := KAH.out.cell u1
  clear t0 t1 u0 u1 v9 SC i1 i2 i3 i4 i5 i6 hwr Ra7 Rb7 Rc7 Rd7 KW7 KAH EM KT7
  -- the document's answers
  go_wp2_with fail
  refine (CLR.out wA ao cap (HA.out.kept KW8.out) HNIL.out).mono ?_
  rintro r w9 ⟨sw, ew, rfl, Rw9, K9⟩
  have RwH := hid_of Rw9
  have Ra9 := hid_of (Ra8.out.kept K9)
  have Rb9 := hid_of (Rb8.out.kept K9)
  have Rc9 := hid_of (Rc8.out.kept K9)
  have Rd9 := hid_of (Rd8.out.kept K9)
  have LAA : Hid (∀ g, sa = some ⟨g, 0, none⟩ → g < wA.heap.size) := fun g e => (Ra8.out.lt g e).2
  have LDA : Hid (∀ g, sd = some ⟨g, 0, none⟩ → g < wA.heap.size) := fun g e => (Rd8.out.lt g e).2
  have KW9 := hid_of (KW8.out.trans K9)
  replace p0 := K9.cell p0
  replace p1 := K9.cell p1
  clear K9 Ra8 Rb8 Rc8 Rd8 KW8 Rw9 CLR
  go_wp2_with fail
  refine (CPR.out w9 ao cap (HA.out.kept KW9.out) HNIL.out).mono ?_
  rintro r w10 ⟨sp, ep, rfl, Rp, K10⟩
  have RpH := hid_of Rp
  have RwT := hid_of (RwH.out.kept K10)
  have RaT := hid_of (Ra9.out.kept K10)
  have RbT := hid_of (Rb9.out.kept K10)
  have RcT := hid_of (Rc9.out.kept K10)
  have RdT := hid_of (Rd9.out.kept K10)
  have LA9 : Hid (∀ g, sa = some ⟨g, 0, none⟩ → g < w9.heap.size) := fun g e => (Ra9.out.lt g e).2
  have LD9 : Hid (∀ g, sd = some ⟨g, 0, none⟩ → g < w9.heap.size) := fun g e => (Rd9.out.lt g e).2
  have KWT := hid_of (KW9.out.trans K10)
  have LAa : Hid (∀ g, sa = some ⟨g, 0, none⟩ → wa.heap.size ≤ g) := fun g e => by have := (RaT.out.lt g e).1; have := KMH.out.size; omega
  have LDa : Hid (∀ g, sd = some ⟨g, 0, none⟩ → wa.heap.size ≤ g) := fun g e => by have h1 := (RdT.out.lt g e).1; have := Z5.out; omega
  clear K10 Ra9 Rb9 Rc9 Rd9 KW9 RwH Rp CPR p0 p1 HA HNIL
  -- the first row is spoiled
  go_wp2_with fail
  go_loopw [93] (fun i wr => ∃ k : Nat, k ≤ lL ∧ i = .int .i64 (k : Int) ∧ (∃ f, Rw wr sa lL f wc.heap.size) ∧ Ch (fun x => sa = some ⟨x, 0, none⟩) w10 wr) (fun i _ => lL - (intOf i).toNat)
  case atStart => exact ⟨0, by omega, rfl, ⟨_, RaT.out⟩, Ch.refl _ _⟩
  case round =>
    obtain ⟨k, hk, rfl, ⟨f, R1⟩, C1⟩ := hrel
    clear RaT
    by_cases hgo : (k : Int) < (lL : Int)
    · rcases R1 with ⟨_, e0⟩ | ⟨ga, rfl, I1, b1⟩
      · exact absurd e0 (by omega)
      · have hkl : k < lL := by omega
        have x1 := I1.cell hkl
        have f1 := World.rowIs.frozen I1 k
        have RN : Hid (Rw (wr.setCell ⟨ga, k, none⟩ (.int .i64 (-9))) (some ⟨ga, 0, none⟩) lL (fun j => if j = k then -9 else f j) wc.heap.size) := Rw.own (IntsAt.set I1 k (-9)) b1
        have CN : Hid (Ch (fun x => some (⟨ga, 0, none⟩ : Addr) = some ⟨x, 0, none⟩) w10 (wr.setCell ⟨ga, k, none⟩ (.int .i64 (-9)))) := C1.setCell (p := ⟨ga, k, none⟩) rfl _
        clear I1 C1
        go_wp2_with fail
        go_roundw
        case rel => exact ⟨k + 1, by omega, by go_num, ⟨_, RN.out⟩, CN.out⟩
        case measure => simp [intOf]; omega
    · have QB := hid_of (RbT.out.ch C1 (fun g e t => by have := (RbT.out.lt g e).1; have := LAB.out g t; omega))
      have QC := hid_of (RcT.out.ch C1 (fun g e t => by have := (RcT.out.lt g e).1; have := LA4.out g t; omega))
      have QD := hid_of (RdT.out.ch C1 (fun g e t => by have := (RdT.out.lt g e).1; have := LA5.out g t; omega))
      have QW := hid_of (RwT.out.ch C1 (fun g e t => by have := (RwT.out.lt g e).1; have := LAA.out g t; omega))
      have QP := hid_of (RpH.out.ch C1 (fun g e t => by have := (RpH.out.lt g e).1; have := LA9.out g t; omega))
      have KQ := hid_of (KWT.out.ch C1 (fun g e => LAa.out g e))
      clear R1 C1 RbT RcT RdT RwT RpH KWT LAB LA4 LA5 LAA LA9 LAa
      -- and the fourth
      go_wp2_with fail
      generalize wr = wq at *
      go_loopw [102] (fun i wr => ∃ k : Nat, k ≤ lS ∧ i = .int .i64 (k : Int) ∧ (∃ f, Rw wr sd lS f w5.heap.size) ∧ Ch (fun x => sd = some ⟨x, 0, none⟩) wq wr) (fun i _ => lS - (intOf i).toNat)
      case atStart => exact ⟨0, by omega, rfl, ⟨_, QD.out⟩, Ch.refl _ _⟩
      case round =>
        obtain ⟨k2, hk2, rfl, ⟨f, R1⟩, C1⟩ := hrel
        clear QD
        by_cases hgo2 : (k2 : Int) < (lS : Int)
        · rcases R1 with ⟨_, e0⟩ | ⟨ga, rfl, I1, b1⟩
          · exact absurd e0 (by omega)
          · have hkl : k2 < lS := by omega
            have x1 := I1.cell hkl
            have f1 := World.rowIs.frozen I1 k2
            have RN : Hid (Rw (wr.setCell ⟨ga, k2, none⟩ (.int .i64 (-9))) (some ⟨ga, 0, none⟩) lS (fun j => if j = k2 then -9 else f j) w5.heap.size) := Rw.own (IntsAt.set I1 k2 (-9)) b1
            have CN : Hid (Ch (fun x => some (⟨ga, 0, none⟩ : Addr) = some ⟨x, 0, none⟩) wq (wr.setCell ⟨ga, k2, none⟩ (.int .i64 (-9)))) := C1.setCell (p := ⟨ga, k2, none⟩) rfl _
            clear I1 C1
            go_wp2_with fail
            go_roundw
            case rel => exact ⟨k2 + 1, by omega, by go_num, ⟨_, RN.out⟩, CN.out⟩
            case measure => simp [intOf]; omega
        · have PB := QB.out.ch C1 (fun g e t => by have := LB5.out g e; have := (R1.lt g t).1; omega)
          have PC := hid_of (QC.out.ch C1 (fun g e t => by have := LC5.out g e; have := (R1.lt g t).1; omega))
          have PW := QW.out.ch C1 (fun g e t => by have := (QW.out.lt g e).1; have := LDA.out g t; omega)
          have PP := hid_of (QP.out.ch C1 (fun g e t => by have := (QP.out.lt g e).1; have := LD9.out g t; omega))
          have KF := hid_of (KQ.out.ch C1 (fun g e => LDa.out g e))
          have I1 := hid_of (ints_calls sb sw lL lL lL _ wr (PB.row hlL) (PW.row hlL))
          clear R1 C1 QB QC QW QP KQ LB5 LC5 LDA LD9 LDa PB PW
          go_wp2_with fail
          refine I1.out.mono ?_
          rintro r wy ⟨rfl, KY⟩
          have I2 := hid_of (ints_calls sc sp lP lP lP _ wy ((PC.out.kept KY).row hlP) ((PP.out.kept KY).row hlP))
          have KZ := hid_of ((KA.out.trans KF.out).trans KY)
          clear I1 KY PC PP KF
          go_wp2_with fail
          refine I2.out.mono ?_
          rintro r wz ⟨rfl, KZ2⟩
          have KE := KZ.out.trans KZ2
          clear I2 KZ2
          go_wp2_with fail
          go_ret
          exact ⟨rfl, KE⟩
end Go.Proofs.Ytjheiaegpoppaaa
namespace Go.Proofs.Ytjheiaegpoppaaa
open Go.RowKit

theorem LevOf.uniq {es : List Ed} {m n s : Nat} {a b : Nat → Int} (h : LevOf es m n s a) (k : LevOf es m n s b) : a = b := by
  obtain ⟨K, h1, h2, rfl⟩ := h.ex
  obtain ⟨L, k1, k2, rfl⟩ := k.ex
  have : K = L := by
    rcases Nat.lt_trichotomy K L with t | t | t
    · have := k1 K t; omega
    · exact t
    · have := h1 L t; omega
  rw [this]

section bad
variable {nodes : Int} {n : Nat} {es : List Ed} {c a : Int}
theorem ansLevelsBad (hf : faultOf nodes es = (c, a)) {s : Int} (hb : c ≠ 0 ∨ s < 0 ∨ nodes ≤ s) (f : Nat → Int) : AnsRow 23 #[.int .i64 s] nodes n es 0 f := fun W bo cb E _ =>
  (levelsBad_calls nodes bo n cb es W E c a hf s hb _ rfl).mono fun _ _ ⟨e, K⟩ => ⟨none, _, e, Rw.nil _ _ _, K⟩
theorem ansLevelsRBad (hf : faultOf nodes es = (c, a)) {s : Int} (hb : c ≠ 0 ∨ s < 0 ∨ nodes ≤ s) (f : Nat → Int) : AnsRow 26 #[.int .i64 s] nodes n es 0 f := fun W bo cb E _ =>
  (levelsRBad_calls nodes bo n cb es W E c a hf s hb _ rfl).mono fun _ _ ⟨e, K⟩ => ⟨none, _, e, Rw.nil _ _ _, K⟩
theorem ansPartsBad (hf : faultOf nodes es = (c, a)) (hb : c ≠ 0) (f : Nat → Int) : AnsRow 19 #[] nodes n es 0 f := fun W bo cb E _ =>
  (partsBad_calls nodes bo n cb es W E c a hf hb).mono fun _ _ ⟨e, K⟩ => ⟨none, _, e, Rw.nil _ _ _, K⟩
theorem ansPartsRBad (hf : faultOf nodes es = (c, a)) (hb : c ≠ 0) (f : Nat → Int) : AnsRow 20 #[] nodes n es 0 f := fun W bo cb E _ =>
  (partsRBad_calls nodes bo n cb es W E c a hf hb).mono fun _ _ ⟨e, K⟩ => ⟨none, _, e, Rw.nil _ _ _, K⟩
theorem ansStrongBad (hf : faultOf nodes es = (c, a)) (hb : c ≠ 0) : AnsSome 17 nodes n es 0 := fun W bo cb E _ =>
  (strongBad_calls nodes bo n cb es W E c a hf hb).mono fun _ _ ⟨e, K⟩ => ⟨none, _, fun _ => 0, e, Rw.nil _ _ _, K⟩
theorem ansVisitBad (hf : faultOf nodes es = (c, a)) (hb : c ≠ 0) : AnsAny 11 nodes n es := fun W bo cb E _ =>
  (visitBad_calls nodes bo n cb es W E c a hf hb).mono fun _ _ ⟨e, K⟩ => ⟨_, e, K⟩
theorem ansOrderBad (hf : faultOf nodes es = (c, a)) (hb : c ≠ 0) : AnsAny 14 nodes n es := fun W bo cb E _ =>
  (orderBad_calls nodes bo n cb es W E c a hf hb).mono fun _ _ ⟨e, K⟩ => ⟨_, e, K⟩
end bad

section good
variable {N n : Nat} {es : List Ed}
theorem ansLevels (hN : N ≤ 1024) (hf : faultOf (N : Int) es = (0, 0)) (hn : n ≤ 4096) (hrg : ∀ e ∈ es, 0 ≤ e.f ∧ e.f < (N : Int) ∧ 0 ≤ e.t ∧ e.t < (N : Int)) {s : Nat} (hs : s < N) {lv : Nat → Int} (L : LevOf es n N s lv) : AnsRow 23 #[.int .i64 (s : Int)] (N : Int) n es N lv := fun W bo cb E _ =>
  (levels_calls N hN bo n cb es W E hf hn hrg s hs).mono fun _ _ ⟨_, _, e, L', I, hg, K⟩ => ⟨_, _, e, Rw.own (by rw [L.uniq L']; exact I) hg, K⟩
theorem ansLevelsR (hN : N ≤ 1024) (hf : faultOf (N : Int) es = (0, 0)) (hl : es.length = n) (hrg : ∀ e ∈ es, 0 ≤ e.f ∧ e.f < (N : Int) ∧ 0 ≤ e.t ∧ e.t < (N : Int)) {s : Nat} (hs : s < N) {lv : Nat → Int} (L : LevOf es n N s lv) : AnsRow 26 #[.int .i64 (s : Int)] (N : Int) n es N lv := fun W bo cb E _ =>
  (levelsN_calls N hN bo n cb es W E hf hrg s hs lv (L.levs hl.symm hs hrg)).mono fun _ _ ⟨_, e, I, hg, K⟩ => ⟨_, _, e, Rw.own I hg, K⟩
theorem ansParts (hN : N ≤ 1024) (hf : faultOf (N : Int) es = (0, 0)) (hn : n ≤ 4096) (hrg : ∀ e ∈ es, 0 ≤ e.f ∧ e.f < (N : Int) ∧ 0 ≤ e.t ∧ e.t < (N : Int)) {f cnt : Nat → Int} (P : NumOf N (Way (outs (both es))) f cnt) : AnsRow 19 #[] (N : Int) n es N f := fun W bo cb E hnil =>
  (parts_calls N hN bo n cb es W E hnil hf hn hrg).mono fun _ _ ⟨_, _, _, e, I, P', hg, K⟩ => ⟨_, _, e, Rw.own (World.rowIs.congr I (fun i hi => by rw [(P.uniq P' N (Nat.le_refl _)).2 i hi])) hg, K⟩
theorem ansPartsR (hN : N ≤ 1024) (hf : faultOf (N : Int) es = (0, 0)) (hrg : ∀ e ∈ es, 0 ≤ e.f ∧ e.f < (N : Int) ∧ 0 ≤ e.t ∧ e.t < (N : Int)) {f cnt : Nat → Int} (P : NumOf N (Way (outs (both es))) f cnt) : AnsRow 20 #[] (N : Int) n es N f := fun W bo cb E _ =>
  (partsN_calls N hN bo n cb es W E hf hrg).mono fun _ _ ⟨_, _, _, e, I, P', hg, K⟩ => ⟨_, _, e, Rw.own (World.rowIs.congr I (fun i hi => by rw [(P.uniq P' N (Nat.le_refl _)).2 i hi])) hg, K⟩
theorem ansStrong (hN : N ≤ 1024) (hf : faultOf (N : Int) es = (0, 0)) (hn : n ≤ 4096) (hrg : ∀ e ∈ es, 0 ≤ e.f ∧ e.f < (N : Int) ∧ 0 ≤ e.t ∧ e.t < (N : Int)) : AnsSome 17 (N : Int) n es N := fun W bo cb E hnil =>
  (strong_calls N hN bo n cb es W E hnil hf hn hrg).mono fun _ _ ⟨_, _, _, e, I, _, hg, K⟩ => ⟨_, _, _, e, Rw.own I hg, K⟩
theorem ansVisit (hN : N ≤ 1024) (hf : faultOf (N : Int) es = (0, 0)) (hn : n ≤ 4096) (hrg : ∀ e ∈ es, 0 ≤ e.f ∧ e.f < (N : Int) ∧ 0 ≤ e.t ∧ e.t < (N : Int)) : AnsAny 11 (N : Int) n es := fun W bo cb E _ =>
  (visit_calls N hN bo n cb es W E hf hn hrg).mono fun _ _ ⟨_, _, e, _, _, _, _, _, K⟩ => ⟨_, e, K⟩
theorem ansOrder (hN : N ≤ 1024) (hf : faultOf (N : Int) es = (0, 0)) (hn : n ≤ 4096) (hrg : ∀ e ∈ es, 0 ≤ e.f ∧ e.f < (N : Int) ∧ 0 ≤ e.t ∧ e.t < (N : Int)) : AnsAny 14 (N : Int) n es := fun W bo cb E _ => by
  obtain ⟨M, h1, h2, h3, h4⟩ := ord_cases es N
  by_cases e : M < N
  · exact (orderN_calls N hN bo n cb es W E hf hn hrg M e h2 h3 (h4 e)).mono fun _ _ ⟨_, _, _, _, e, _, _, K⟩ => ⟨_, e, K⟩
  · obtain rfl : M = N := by omega
    exact (order_calls M hN bo n cb es W E hf hn hrg h2).mono fun _ _ ⟨_, _, e, _, K⟩ => ⟨_, e, K⟩
end good

end Go.Proofs.Ytjheiaegpoppaaa
namespace Go.Proofs.Ytjheiaegpoppaaa.walkKeeps
open Go.ChangeShapes Go.WideShapes Go.ChangeAt Go.RowKit Go.Joins Go.Deep
set_option linter.unusedVariables false

theorem own : ownKnob Try.prog.godebug = none := by kernel_rfl
theorem laidOut : laidOutB Try.prog = true := by kernel_rfl

theorem walked (nodes : Int) (ao : Option Addr) (m cap : Nat) (es : List Ed) (w : World) (h : ERow w ao m cap es) (hm : m * 32 ≤ 140737488355328) (hnil : ao = none → m = 0 ∧ cap = 0) (s : Int) :
    Calls Try.prog 9 #[.agg #[.int .i64 nodes, .slice ao m cap], .int .i64 s] w fun v w' => v = .returned (.bool true) ∧ Kept w w' := by
  obtain ⟨c, a, hf⟩ : ∃ c a, faultOf nodes es = (c, a) := ⟨_, _, rfl⟩
  have zf : Nat → Int := fun _ => 0
  by_cases hb : c ≠ 0
  · exact walkKeepsWalk nodes ao m cap es w h hm hnil s 0 0 0 zf zf (by omega) (by omega) (by omega) (ansLevelsBad hf (.inl hb) zf) (ansVisitBad hf hb) (ansPartsBad hf hb zf) (ansStrongBad hf hb) (ansOrderBad hf hb) (ansLevelsRBad hf (.inl hb) zf) (ansPartsRBad hf hb zf)
  · have hc : c = 0 := by omega
    subst hc
    obtain ⟨h0, h1, h2, ha, h3⟩ := rightW_of hf
    subst ha
    obtain ⟨n, rfl⟩ : ∃ n : Nat, nodes = (n : Int) := ⟨nodes.toNat, by omega⟩
    have hl := h.len.symm
    have hm4 : m ≤ 4096 := by omega
    have hn : n ≤ 1024 := by omega
    obtain ⟨-, ct, P⟩ := parts_num h3
    by_cases hs : s < 0 ∨ (n : Int) ≤ s
    · exact walkKeepsWalk n ao m cap es w h hm hnil s 0 n n zf _ (by omega) hn hn (ansLevelsBad hf (.inr hs) zf) (ansVisit hn hf hm4 h3) (ansParts hn hf hm4 h3 P) (ansStrong hn hf hm4 h3) (ansOrder hn hf hm4 h3) (ansLevelsRBad hf (.inr hs) zf) (ansPartsR hn hf h3 P)
    · obtain ⟨s', rfl⟩ : ∃ s' : Nat, s = (s' : Int) := ⟨s.toNat, by omega⟩
      have hs' : s' < n := by omega
      obtain ⟨lv, L⟩ := lev_ex h3 hs'
      rw [hl] at L
      exact walkKeepsWalk n ao m cap es w h hm hnil s' n n n lv _ hn hn hn (ansLevels hn hf hm4 h3 hs' L) (ansVisit hn hf hm4 h3) (ansParts hn hf hm4 h3 P) (ansStrong hn hf hm4 h3) (ansOrder hn hf hm4 h3) (ansLevelsR hn hf hl h3 hs' L) (ansPartsR hn hf h3 P)

set_option maxRecDepth 100000 in
theorem lifted (os : Os) (started : os.Started) (H : Type) (enc : TypeId × Value → H) :
    ReturnsInHanded {} Try.checked os 9 .any (Rows.walkKeepsSpec.pre6 enc Try.prog Try.f9 Rows.walkKeepsRow.domain false) (Rows.walkKeepsSpec.post enc Try.prog Try.f9 false true false false) := by
  refine returnsInHanded_of_change_sized (C := Try.checked) own started (by kernel_rfl) Try.func9
    (ChangeSpec.witness6 (enc := enc) (C := Try.checked) false ⟨#[], #[.agg #[.int .i64 0, .slice none 0 0], .int .i64 0], []⟩ 8 (by kernel_rfl) (by kernel_rfl) (by kernel_rfl) (by kernel_rfl)) ?_
  intro W base args ds gs before hval0 hW hcnd hsz0 _
  have hsz : (DataW.weightsEach Try.prog (Try.f9.params.toList ++ Rows.walkKeepsSpec.plain.varTypes Try.prog) (ds ++ gs)).all (· ≤ reachBytes) = true := hsz0
  clear hsz0
  have hval : ∀ (j : Nat) t v, Try.f9.params[j]? = some t → args[j]? = some v → Value.okWide Try.prog W .any base t v := hval0
  have hW' := hW
  obtain ⟨p, q, hA0, hV, rfl, hfz, hnd⟩ := hW
  have hA : DataW.TrodAll enc Try.prog W 0 (fun _ => true) true Try.f9.params.toList args.toList ds p := hA0
  rw [Try.params9] at hA hval hsz
  obtain ⟨v0, vs0, d0, ds0, p0, q0, hargs, rfl, rfl, h0, r0⟩ := trodAll_cons hA
  obtain ⟨v1, vs1, d1, ds1, p1, q1, rfl, rfl, rfl, h1, r1⟩ := trodAll_cons r0
  obtain ⟨rfl, rfl, rfl⟩ := trodAll_nil r1
  obtain rfl : args = #[v0, v1] := by cases args; simp_all
  obtain ⟨rfl, rfl⟩ := trodVars_none hV
  have k0 := h0
  have lt0 : ∀ x ∈ p0, x.block < W.heap.size := by obtain ⟨m, hm⟩ := k0; exact DataW.trod_lt m _ _ _ hm
  obtain ⟨c0, c1, y0, y1, m, rfl, rfl, rfl, hy0, hy1⟩ := open_agg2 Try.underlying24 (by kernel_rfl) cellsG (hval 0 24 v0 rfl rfl) h0
  obtain ⟨a0, e0, rfl, w0⟩ := DataW.trod_int Try.underlying3 hy0
  simp at e0
  subst e0
  obtain ⟨ao, len, cap, e1⟩ := slice_form Try.underlying22 hy1
  simp at e1
  subst e1
  obtain ⟨⟨es, hE, _⟩, hnil, hbulk⟩ := open_edges hy1
  have hn : len * 32 ≤ 140737488355328 := by
    rcases hbulk with ⟨_, rfl⟩ | ⟨elems, spare, hd, hl, hc⟩
    · omega
    · have hs := List.all_eq_true.1 hsz _ (DataW.weights_mem_each (j := 0) (t := 24) rfl rfl ((elems.length + spare.length) * Try.prog.bytesOf 42) (by simp [DataW.weights, DataW.weightsEach, Try.underlying24, Try.underlying22, hd]))
      have hs' : (elems.length + spare.length) * Try.prog.bytesOf 42 ≤ reachBytes := of_decide_eq_true hs
      rw [bytesE] at hs'
      unfold reachBytes at hs'
      omega
  obtain ⟨a1, rfl, rfl, rfl, w1⟩ := open_int Try.underlying3 (hval 1 3 v1 rfl rfl) h1
  clear hA0 hval0
  refine (walked a0 ao len cap es W hE hn hnil a1).mono fun e W' ⟨he, bel⟩ => ?_
  subst he
  exact ⟨_, rfl, _, _, _, [], _, [], hW', (trodAll_cons_mk (shut_bool Try.underlying4 _) trodAll_mk0), (trodAll_cons_mk (Below.trod laidOut (by kernel_rfl) (of_decide_eq_true (by kernel_rfl)) k0 bel lt0) (trodAll_cons_mk (shut_int Try.underlying3 w1) trodAll_mk0)), rfl, bel.frame _, fun h => by cases h⟩

theorem over : Rows.WalkKeepsSaid :=
  OpenClaim.holds_of_wide 9 Try.f9 rfl rfl rfl rfl rfl rfl rfl ⟨rfl, rfl, rfl, rfl, rfl⟩ rfl rfl rfl rfl rfl (by kernel_rfl) Try.func9 (by kernel_rfl)
    (of_decide_eq_true (by kernel_rfl)) (by unfold Func.isWrapper; first | (rw [if_pos (by decide +kernel)]; kernel_rfl) | (rw [if_neg (by decide +kernel)]; exact ⟨rfl, rfl⟩))
    (fun os started H enc _ => lifted os started H enc)
end Go.Proofs.Ytjheiaegpoppaaa.walkKeeps

namespace Go.Proofs.Ytjheiaegpoppaaa

/-- The statement. -/
theorem walkKeepsHolds : Rows.WalkKeepsSaid :=
  walkKeeps.over

end Go.Proofs.Ytjheiaegpoppaaa

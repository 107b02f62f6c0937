/- GraphKeeps: the walk of the law. -/
import Derived.Test.YtjbodameaeaaeaaEdgeJ
import Derived.Test.YtjbodameaeaaeaaEdgeM
import Derived.Test.YtjbodameaeaaeaaFrame
import Derived.OneCell
import Derived.Deep.DeepCutAuto
import Derived.Deep.CutBlock
import Derived.Deep.DeepAppendWide
import Derived.Test.YtjbodameaeaaeaaRightW
namespace Go.Proofs.Ytjbodameaeaaeaa
open Go.RowKit

/-- The mark behind the edges. -/
def e7 : Ed := ⟨0, 0, -7, 0⟩

theorem owns_room {w : World} {base e size n : Nat} {g cap : Nat} {xs : List Value} (h : w.ownsRow base e size (.slice (some ⟨g, 0, none⟩) n cap) n xs) : n ≤ cap ∧ cap ≤ 9223372036854775807 := by
  rcases h.2 with ⟨t, _⟩ | ⟨g', cap', cur, t, _, _, a, b, _⟩
  · simp at t
  · simp only [Value.slice.injEq, Option.some.injEq, Addr.mk.injEq, and_true, true_and] at t
    obtain ⟨rfl, rfl⟩ := t
    unfold maxLen at b
    exact ⟨a, by omega⟩

theorem keep_box {W2 w5 : World} {o : Obj} {row : Option Nat} {b k : Nat} {v : Value} (grow : (W2.drew.alloc o).grownBy w5 row) (hne : row ≠ some b) (h : W2.cell? ⟨b, k, none⟩ = some v) : w5.cell? ⟨b, k, none⟩ = some v ∧ w5.frozen? ⟨b, k, none⟩ = W2.frozen? ⟨b, k, none⟩ := by
  have K : Kept W2 (W2.drew.alloc o) := (Kept.refl W2).drew.alloc o
  have lb : b < W2.heap.size := World.block_lt_of_cell? _ _ h
  have lb2 : b < (W2.drew.alloc o).heap.size := Nat.lt_of_lt_of_le lb K.size
  refine ⟨grow.cell (K.cell h) (fun e => hne e.symm), ?_⟩
  rw [World.frozen?_of_block (a := ⟨b, k, none⟩) (grow.block b lb2 (fun e => hne e.symm))]
  exact Below.frozen (p := ⟨b, k, none⟩) K lb

/-- The list that is spoiled: where it lies, and that nothing else has changed. -/
structure Spoil (W w0 w : World) (F : Nat → Prop) (b8 : Nat) (m : Nat) : Prop where
  ex : ∃ ao cap xs, w.cell? ⟨b8, 1, none⟩ = some (.slice ao m cap) ∧ w.ownsRow W.heap.size 39 4 (.slice ao m cap) m xs ∧ ∀ k, (Value.slice ao m cap).ownBlock = some k → k ≠ b8 ∧ (F k ∨ w0.heap.size ≤ k)
  z : w.frozen? ⟨b8, 1, none⟩ = false
  ch : Ch F w0 w

/-- A box for a graph, as it is made. -/
structure Box (w : World) (b : Nat) : Prop where
  c0 : w.cell? ⟨b, 0, none⟩ = some (.int .i64 0)
  c1 : w.cell? ⟨b, 1, none⟩ = some (.slice none 0 0)
  f0 : w.frozen? ⟨b, 0, none⟩ = false
  f1 : w.frozen? ⟨b, 1, none⟩ = false
theorem Box.new (w : World) (b : Nat) (e : b = w.heap.size) : Box (w.alloc (Obj.cells #[.int .i64 0, .slice none 0 0] 24)) b := by
  subst e
  exact ⟨by simp [go_sem], by simp [go_sem], by simp [go_sem], by simp [go_sem]⟩
theorem Box.kept {w w' : World} {b : Nat} (h : Box w b) (K : Kept w w') : Box w' b :=
  ⟨K.cell h.c0, K.cell h.c1, (Below.frozen (p := ⟨b, 0, none⟩) K (World.block_lt_of_cell? _ _ h.c0)).trans h.f0, (Below.frozen (p := ⟨b, 1, none⟩) K (World.block_lt_of_cell? _ _ h.c1)).trans h.f1⟩
theorem Box.lt {w : World} {b : Nat} (h : Box w b) : b < w.heap.size := World.block_lt_of_cell? _ _ h.c0

/-- Two copies of a graph, each in a box and a row of its own, newer than W. -/
structure Two8 (W w : World) (b8 b9 : Nat) (aA : Option Addr) (cA : Nat) (aB : Option Addr) (cB : Nat) (nodes : Int) (n : Nat) (es : List Ed) : Prop where
  a0 : w.cell? ⟨b8, 0, none⟩ = some (.int .i64 nodes)
  a1 : w.cell? ⟨b8, 1, none⟩ = some (.slice aA n cA)
  az : w.frozen? ⟨b8, 1, none⟩ = false
  b0 : w.cell? ⟨b9, 0, none⟩ = some (.int .i64 nodes)
  b1 : w.cell? ⟨b9, 1, none⟩ = some (.slice aB n cB)
  bz : w.frozen? ⟨b9, 1, none⟩ = false
  oa : w.ownsRow W.heap.size 39 4 (.slice aA n cA) n (evals es)
  ob : w.ownsRow W.heap.size 39 4 (.slice aB n cB) n (evals es)
  n89 : b8 ≠ b9
  l8 : W.heap.size ≤ b8
  l9 : W.heap.size ≤ b9
  na : ∀ k, (Value.slice aA n cA).ownBlock = some k → k ≠ b8 ∧ k ≠ b9
  nb : ∀ k, (Value.slice aB n cB).ownBlock = some k → k ≠ b8 ∧ k ≠ b9
  nab : ∀ k, (Value.slice aA n cA).ownBlock = some k → (Value.slice aB n cB).ownBlock ≠ some k
  kept : Kept W w

theorem Two8.swap {W w : World} {b8 b9 cA cB n : Nat} {aA aB : Option Addr} {nodes : Int} {es : List Ed} (h : Two8 W w b9 b8 aB cB aA cA nodes n es) : Two8 W w b8 b9 aA cA aB cB nodes n es :=
  ⟨h.b0, h.b1, h.bz, h.a0, h.a1, h.az, h.ob, h.oa, Ne.symm h.n89, h.l9, h.l8, fun k e => ⟨(h.nb k e).2, (h.nb k e).1⟩, fun k e => ⟨(h.na k e).2, (h.na k e).1⟩, fun k e t => h.nab k t e, h.kept⟩

/-- Two rows of the same edges, newer than W. -/
structure Pre (W w : World) (aA : Option Addr) (cA : Nat) (aB : Option Addr) (cB : Nat) (n : Nat) (es : List Ed) : Prop where
  oa : w.ownsRow W.heap.size 39 4 (.slice aA n cA) n (evals es)
  ob : w.ownsRow W.heap.size 39 4 (.slice aB n cB) n (evals es)
  nab : ∀ k, (Value.slice aA n cA).ownBlock = some k → (Value.slice aB n cB).ownBlock ≠ some k
  kept : Kept W w

theorem Pre.swap {W w : World} {cA cB n : Nat} {aA aB : Option Addr} {es : List Ed} (h : Pre W w aB cB aA cA n es) : Pre W w aA cA aB cB n es := ⟨h.ob, h.oa, fun k e t => h.nab k t e, h.kept⟩

set_option linter.unusedSimpArgs false in
/-- Both boxes are older. -/
theorem Pre.s3 {W w : World} {b8 b9 cA cB n : Nat} {aA aB : Option Addr} {nodes : Int} {es : List Ed} (h : Pre W w aA cA aB cB n es) (x : Box w b8) (y : Box w b9) (n89 : b8 ≠ b9) (l8 : W.heap.size ≤ b8) (l9 : W.heap.size ≤ b9)
    (na : ∀ k, (Value.slice aA n cA).ownBlock = some k → k ≠ b8 ∧ k ≠ b9) (nb : ∀ k, (Value.slice aB n cB).ownBlock = some k → k ≠ b8 ∧ k ≠ b9) :
    Two8 W ((((w.setCell ⟨b8, 0, none⟩ (.int .i64 nodes)).setCell ⟨b8, 1, none⟩ (.slice aA n cA)).setCell ⟨b9, 0, none⟩ (.int .i64 nodes)).setCell ⟨b9, 1, none⟩ (.slice aB n cB)) b8 b9 aA cA aB cB nodes n es := by
  have C : Ch (fun k => k = b8 ∨ k = b9) w ((((w.setCell ⟨b8, 0, none⟩ (.int .i64 nodes)).setCell ⟨b8, 1, none⟩ (.slice aA n cA)).setCell ⟨b9, 0, none⟩ (.int .i64 nodes)).setCell ⟨b9, 1, none⟩ (.slice aB n cB)) :=
    ((((Ch.refl (fun k => k = b8 ∨ k = b9) w).setCell (F := fun k => k = b8 ∨ k = b9) (p := ⟨b8, 0, none⟩) (.inl rfl) _).setCell (F := fun k => k = b8 ∨ k = b9) (p := ⟨b8, 1, none⟩) (.inl rfl) _).setCell (F := fun k => k = b8 ∨ k = b9) (p := ⟨b9, 0, none⟩) (.inr rfl) _).setCell (F := fun k => k = b8 ∨ k = b9) (p := ⟨b9, 1, none⟩) (.inr rfl) _
  obtain ⟨-, -, t3, t4⟩ := box2w x.c0 x.c1 (.int .i64 nodes) (.slice aA n cA)
  have y0 : ((w.setCell ⟨b8, 0, none⟩ (.int .i64 nodes)).setCell ⟨b8, 1, none⟩ (.slice aA n cA)).cell? ⟨b9, 0, none⟩ = some (.int .i64 0) := by
    rw [World.cell?_setCell_other _ _ _ _ (by simp [n89]), World.cell?_setCell_other _ _ _ _ (by simp [n89])]; exact y.c0
  have y1 : ((w.setCell ⟨b8, 0, none⟩ (.int .i64 nodes)).setCell ⟨b8, 1, none⟩ (.slice aA n cA)).cell? ⟨b9, 1, none⟩ = some (.slice none 0 0) := by
    rw [World.cell?_setCell_other _ _ _ _ (by simp [n89]), World.cell?_setCell_other _ _ _ _ (by simp [n89])]; exact y.c1
  obtain ⟨-, -, u3, u4⟩ := box2w y0 y1 (.int .i64 nodes) (.slice aB n cB)
  refine ⟨?_, ?_, ?_, u3, u4, ?_, C.owns h.oa (fun k e t => ?_), C.owns h.ob (fun k e t => ?_), n89, l8, l9, na, nb, h.nab, h.kept.ch C (fun k t => ?_)⟩
  · rw [World.cell?_setCell_other _ _ _ _ (by simp [Ne.symm n89]), World.cell?_setCell_other _ _ _ _ (by simp [Ne.symm n89])]; exact t3
  · rw [World.cell?_setCell_other _ _ _ _ (by simp [Ne.symm n89]), World.cell?_setCell_other _ _ _ _ (by simp [Ne.symm n89])]; exact t4
  · simpa [go_sem] using x.f1
  · simpa [go_sem] using y.f1
  · rcases t with t | t
    · exact (na k e).1 t
    · exact (na k e).2 t
  · rcases t with t | t
    · exact (nb k e).1 t
    · exact (nb k e).2 t
  · rcases t with t | t <;> omega

/-- One box is older, one is made last. -/
theorem Pre.s2 {W w : World} {b8 cA cB n : Nat} {aA aB : Option Addr} {nodes : Int} {es : List Ed} (h : Pre W w aA cA aB cB n es) (x : Box w b8) (l8 : W.heap.size ≤ b8)
    (na : ∀ k, (Value.slice aA n cA).ownBlock = some k → k ≠ b8) (nb : ∀ k, (Value.slice aB n cB).ownBlock = some k → k ≠ b8) :
    Two8 W (((w.setCell ⟨b8, 0, none⟩ (.int .i64 nodes)).setCell ⟨b8, 1, none⟩ (.slice aA n cA)).alloc (Obj.cells #[.int .i64 nodes, .slice aB n cB] 24)) b8 w.heap.size aA cA aB cB nodes n es := by
  have C0 : Ch (fun k => k = b8) w ((w.setCell ⟨b8, 0, none⟩ (.int .i64 nodes)).setCell ⟨b8, 1, none⟩ (.slice aA n cA)) :=
    ((Ch.refl (fun k => k = b8) w).setCell (F := fun k => k = b8) (p := ⟨b8, 0, none⟩) rfl _).setCell (F := fun k => k = b8) (p := ⟨b8, 1, none⟩) rfl _
  have C := C0.alloc (Obj.cells #[.int .i64 nodes, .slice aB n cB] 24)
  have hs : ((w.setCell ⟨b8, 0, none⟩ (.int .i64 nodes)).setCell ⟨b8, 1, none⟩ (.slice aA n cA)).heap.size = w.heap.size := by simp [World.setCell]
  obtain ⟨-, -, t3, t4⟩ := box2w x.c0 x.c1 (.int .i64 nodes) (.slice aA n cA)
  have hz : ((w.setCell ⟨b8, 0, none⟩ (.int .i64 nodes)).setCell ⟨b8, 1, none⟩ (.slice aA n cA)).frozen? ⟨b8, 1, none⟩ = false := by simpa [go_sem] using x.f1
  generalize (w.setCell ⟨b8, 0, none⟩ (.int .i64 nodes)).setCell ⟨b8, 1, none⟩ (.slice aA n cA) = w' at C hs t3 t4 hz ⊢
  have K : Kept w' (w'.alloc (Obj.cells #[.int .i64 nodes, .slice aB n cB] 24)) := (Kept.refl w').alloc _
  have lx := x.lt
  have hW := h.kept.size
  rw [← hs]
  refine ⟨K.cell t3, K.cell t4, (Below.frozen (p := ⟨b8, 1, none⟩) K (World.block_lt_of_cell? _ _ t4)).trans hz, by simp [go_sem], by simp [go_sem], by simp [go_sem], C.owns h.oa (fun k e t => na k e t), C.owns h.ob (fun k e t => nb k e t), by omega, l8, by omega, fun k e => ⟨na k e, ?_⟩, fun k e => ⟨nb k e, ?_⟩, h.nab, h.kept.ch C (fun k t => by omega)⟩
  · have := (h.oa.lt k e).2; omega
  · have := (h.ob.lt k e).2; omega

/-- Both boxes are made last. -/
theorem Pre.s1 {W w : World} {cA cB n : Nat} {aA aB : Option Addr} {nodes : Int} {es : List Ed} (h : Pre W w aA cA aB cB n es) :
    Two8 W ((w.alloc (Obj.cells #[.int .i64 nodes, .slice aA n cA] 24)).alloc (Obj.cells #[.int .i64 nodes, .slice aB n cB] 24)) w.heap.size (w.heap.size + 1) aA cA aB cB nodes n es := by
  have hW := h.kept.size
  refine ⟨by simp [go_sem], by simp [go_sem], by simp [go_sem], by simp [go_sem], by simp [go_sem], by simp [go_sem], (h.oa.alloc _).alloc _, (h.ob.alloc _).alloc _, by omega, hW, by omega, fun k e => ?_, fun k e => ?_, h.nab, (h.kept.alloc _).alloc _⟩
  · have := (h.oa.lt k e).2; omega
  · have := (h.ob.lt k e).2; omega

theorem NetAt.far {w w' : World} {B p : Nat} {nodes : Int} {es : List Ed} {G : Nat → Prop} (h : NetAt w B p nodes es) (C : Ch G w w') (hG : ∀ k, G k → k < B) : NetAt w' B p nodes es := by
  obtain ⟨ao, cap, c1, O, hp⟩ := h.c1
  have lp : p < w.heap.size := World.block_lt_of_cell? _ _ c1
  have np : ¬ G p := fun t => by have := hG p t; have := h.ge; omega
  exact ⟨C.cell h.c0 np, ⟨ao, cap, C.cell c1 np, C.owns O (fun k e t => by have := hG k t; have := (O.lt k e).1; omega), hp⟩, (C.frozen lp np).trans h.z0, (C.frozen lp np).trans h.z1, h.ge, fun q => (C.frozen lp np).trans (h.zz q)⟩

theorem owns_some {w : World} {base e size n g cap : Nat} {xs : List Value} (h : w.ownsRow base e size (.slice (some ⟨g, 0, none⟩) n cap) n xs) (j : Nat) (hj : j < n * size) : ∃ v, w.cell? ⟨g, j, none⟩ = some v := by
  rw [h.cellAt j hj]
  exact ⟨xs[j]'(by rw [h.1]; exact hj), by simp⟩

/-- The row without the mark. -/
theorem ERow.of_more {w : World} {base : Nat} {g n cap : Nat} {es : List Ed} {x : Ed} (hl : es.length = n) (h : w.ownsRow base 39 4 (.slice (some ⟨g, 0, none⟩) (n + 1) cap) (n + 1) (evals es ++ ecells x)) : ERow w (some ⟨g, 0, none⟩) n cap es := by
  obtain ⟨r1, r2⟩ := owns_room h
  refine ⟨hl.symm, by omega, by unfold maxLen; omega, fun _ => ⟨g, 0, rfl, fun i hi => ?_⟩⟩
  obtain ⟨v1, v2, v3, v4⟩ := evals_get es i (by omega)
  have hh : ∀ j, j < n * 4 → w.cell? ⟨g, j, none⟩ = (evals es)[j]? := fun j hj => by
    rw [h.cellAt j (by omega), List.getElem?_append_left (by rw [evals_len]; omega)]
  rw [Nat.zero_add]
  exact ⟨(hh _ (by omega)).trans v1, (hh _ (by omega)).trans v2, (hh _ (by omega)).trans v3, (hh _ (by omega)).trans v4⟩

/-- The step of an append of one or more, by the wide bound. -/
theorem step_append_wideK {Pr : Program} {w : World} {ops : Array Oper} {o : Oper} {a : Act} {K : Act → World → Prop} {Q : Exit → Act → World → Prop} {E : Prop} (hgd : o.guard = none) (s x : Operand) (t : TypeId)
    (ho : o.op = .call { callee := .builtin .append, args := #[s, x], argTypes := #[t, t] })
    (base : Nat) (e : TypeId) (i : TypeInfo) (z : Value) (size bytes : Nat) (ht : Pr.underlying t = some (.slice e)) (hi : Pr.info? e = some i) (hz : i.zero = some z)
    (hsize : i.size = size) (hby : i.bytes = bytes) (hzs : z.cells.size = size) (hsz : 0 < size)
    (v : Value) (n : Nat) (xs : List Value) (hs : a.eval s = v) (hown : w.ownsRow base e size v n xs)
    (ad : Addr) (m c : Nat) (news : List Value) (hx : a.eval x = .slice (some ad) m c) (hl : news.length = m * size) (hnews : ∀ j u, news[j]? = some u → w.cell? (ad.add j) = some u) (h1 : ∀ u ∈ news, u.oneCell' = true)
    (hm : 0 < m) (h63 : n + m ≤ maxLen) (hbytes : ((n + m) + (n + m) / 4 + 192) * bytes ≤ 281474976710656) (hbase : base ≤ w.heap.size)
    (h : ∀ g cap w', w'.ownsRow base e size (.slice (some ⟨g, 0, none⟩) (n + m) cap) (n + m) (xs ++ news) → w.grownBy w' v.ownBlock → K (a.put o.dst (.slice (some ⟨g, 0, none⟩) (n + m) cap)) w') :
    if Region.wanted o (yielded ops a.tmps) = true then Oper.wp Pr o a w K Q else E := by
  have hw : Region.wanted o (yielded ops a.tmps) = true := by simp [Region.wanted, hgd]
  rw [if_pos hw]
  refine wp_append_own_wide w s x t ho base e i z size bytes ht hi hz hsize hby hzs hsz v n xs hs hown ad m c news hx hl hnews h1 h63 hbytes hbase (fun v' w' h2 h3 _ => ?_)
  have h2' := h2
  rcases h2'.2 with ⟨_, h0⟩ | ⟨g, cap, cur, e1, _⟩
  · exact absurd h0 (by omega)
  · subst e1
    exact h g cap w' h2 h3

/-- A row of edges is no box. -/
theorem row_no_box {w : World} {base g b n cap : Nat} {es : List Ed} {x : Ed} {v : Value} (hl : es.length = n) (h : w.ownsRow base 39 4 (.slice (some ⟨g, 0, none⟩) (n + 1) cap) (n + 1) (evals es ++ ecells x)) (c : w.cell? ⟨b, 1, none⟩ = some v) (hv : ∀ z, v ≠ .int .i64 z) : g ≠ b := fun e => by
  subst e
  have e1 : evals es ++ ecells x = evals (es ++ [x]) := by rw [evals_app]; simp [evals]
  have hc := h.cellAt 1 (by omega)
  rw [e1] at hc
  have h0 := (evals_get (es ++ [x]) 0 (by simp)).2.1
  simp only [Nat.zero_mul, Nat.zero_add] at h0
  rw [h0, c] at hc
  exact hv _ (by simpa using hc)

set_option maxRecDepth 100000 in
set_option linter.unusedSimpArgs false in
set_option maxHeartbeats 4000000 in
theorem graphKeepsWalk (nodes : Int) (ao : Option Addr) (n cap : Nat) (es : List Ed) (w : World) (h : ERow w ao n cap es) (hb : n * 32 ≤ 140737488355328) :
    Calls Try.prog 4 #[.agg #[.int .i64 nodes, .slice ao n cap]] w fun r w' => r = .returned (.bool true) ∧ Kept w w' := by
  obtain ⟨c, a, hf⟩ : ∃ c a, Hid (faultOf nodes es = (c, a)) := ⟨_, _, hid_of rfl⟩
  have hnot : ∀ (x : Bool) (w : World), (Op.unary .not (.bool x)).run Try.prog w = .ok (.bool (!x)) w := fun _ _ => rfl
  obtain ⟨i0, hi, hz0, hz1, hz2⟩ := infoE
  have KG : Kept w (w.alloc (Obj.cells #[.int .i64 nodes, .slice ao n cap] 24)) := (Kept.refl w).alloc _
  have g0 : (w.alloc (Obj.cells #[.int .i64 nodes, .slice ao n cap] 24)).cell? ⟨w.heap.size, 0, none⟩ = some (.int .i64 nodes) := by simp [go_sem]
  have g1 : (w.alloc (Obj.cells #[.int .i64 nodes, .slice ao n cap] 24)).cell? ⟨w.heap.size, 1, none⟩ = some (.slice ao n cap) := by simp [go_sem]
  have HL : Hid (es.length = n) := h.len.symm
  have HN4 : Hid (c = 0 → n ≤ 4096) := fun t => by
    have h1 := hf.out
    rw [t] at h1
    have h2 := (rightW_of h1).2.2.1
    have h3 := HL.out
    omega
  have hr0 := h.room
  have hm0 := h.most
  unfold maxLen at hm0
  go_enter Try.func4, Try.ntmps4
  go_wp2_with fail
  refine (awake_calls _).mono ?_
  rintro r wa ⟨rfl, K1⟩
  have ga0 := K1.cell g0
  have ga1 := K1.cell g1
  have HA := hid_of (h.kept (KG.trans K1))
  have KA := hid_of (KG.trans K1)
  have hwa : w.heap.size < wa.heap.size := World.block_lt_of_cell? _ _ ga0
  clear h K1 KG g0 g1
  go_wp2_with fail
  refine (copyR_calls nodes ao n cap es wa HA.out (by omega)).mono ?_
  rintro r w1 ⟨ao1, cap1, rfl, O1, K1⟩
  have hw1 := K1.size
  have K2 := K1.alloc (Obj.cells #[.int .i64 nodes, .slice ao1 n cap1] 24)
  have s0 : (w1.alloc (Obj.cells #[.int .i64 nodes, .slice ao1 n cap1] 24)).cell? ⟨w1.heap.size, 0, none⟩ = some (.int .i64 nodes) := by simp [go_sem]
  have s1 : (w1.alloc (Obj.cells #[.int .i64 nodes, .slice ao1 n cap1] 24)).cell? ⟨w1.heap.size, 1, none⟩ = some (.slice ao1 n cap1) := by simp [go_sem]
  have s2 : (w1.alloc (Obj.cells #[.int .i64 nodes, .slice ao1 n cap1] 24)).frozen? ⟨w1.heap.size, 1, none⟩ = false := by simp [go_sem]
  have hsz : (w1.alloc (Obj.cells #[.int .i64 nodes, .slice ao1 n cap1] 24)).heap.size = w1.heap.size + 1 := by simp
  have O2 := hid_of (O1.alloc (Obj.cells #[.int .i64 nodes, .slice ao1 n cap1] 24))
  have LT1 := hid_of (fun k e => (O1.lt k e).2)
  have c0 := K2.cell ga0
  have c1 := K2.cell ga1
  have K2H := hid_of K2
  clear O1 K1 K2
  go_upto_region 4 with fail
  generalize hW2 : w1.alloc (Obj.cells #[.int .i64 nodes, .slice ao1 n cap1] 24) = W2 at s0 s1 s2 hsz O2 c0 c1 K2H ⊢
  clear hW2
  generalize w1.heap.size = b3 at *
  have HSZ := hid_of hsz
  clear hsz
  go_cut [] (fun wx => ∃ g1 c1, wx.cell? ⟨b3, 0, none⟩ = some (.int .i64 nodes) ∧ wx.cell? ⟨b3, 1, none⟩ = some (.slice (some ⟨g1, 0, none⟩) n c1) ∧ wx.ownsRow wa.heap.size 39 4 (.slice (some ⟨g1, 0, none⟩) (n + 1) c1) (n + 1) (evals es ++ ecells e7) ∧ g1 ≠ b3 ∧ Kept wa wx)
  case first =>
    have q1 : w.heap.size < W2.heap.size := World.block_lt_of_cell? _ _ c1
    have q2 : b3 < W2.heap.size := World.block_lt_of_cell? _ _ s0
    have NW := hid_of (cell_new4 W2.drew 39 e7)
    have HM := hid_of (World.ownsRow.alloc O2.out.drew (Obj.cells #[.int .i64 0, .int .i64 0, .int .i64 (-7), .int .i64 0] 39))
    have B1 : Hid (n + 1 ≤ maxLen) := by show n + 1 ≤ maxLen; unfold maxLen; omega
    have B2 : Hid (((n + 1) + (n + 1) / 4 + 192) * 32 ≤ 281474976710656) := by show _ ≤ _; omega
    have B3 : Hid (wa.heap.size ≤ (W2.drew.alloc (Obj.cells #[.int .i64 0, .int .i64 0, .int .i64 (-7), .int .i64 0] 39)).heap.size) := by show wa.heap.size ≤ _; have := HSZ.out; simp; omega
    go_region_law ((refine step_append_wideK (by rfl) (.tmp 17) (.tmp 19) 22 (by rfl) wa.heap.size 39 i0 _ 4 32 Try.underlying22 hi hz0 hz1 hz2 rfl (by decide) _ _ _ (by rfl) HM.out ⟨W2.heap.size, 0, none⟩ 1 1 (ecells e7) (by rfl) rfl NW.out (ecells_one _) (by decide) B1.out B2.out B3.out ?_; intro g5 c5 w5 own grow; obtain ⟨rm, mx⟩ := owns_room own; have rm2 : n ≤ c5 := (by omega); have rm3 : (n : Int) ≤ (c5 : Int) := (by omega); have rm4 : ¬ (c5 : Int) < (n : Int) := (by omega); have KX : Hid (Kept wa w5) := hid_of (Below.grown (K2H.out.drew.alloc _) grow (K2H.out.drew.alloc _).size (fun j hj => (O2.out.lt j hj).1)); have nb : (Value.slice ao1 n cap1).ownBlock ≠ some b3 := fun e => Nat.lt_irrefl _ (LT1.out _ e); have x0 := (keep_box grow nb s0).1; have x1 := (keep_box grow nb s1).1; have x2 := (keep_box grow nb s1).2.trans s2; have y0 := Kept.cell KX.out ga0; have y1 := Kept.cell KX.out ga1; have ON := hid_of own))
    all_goals
      have ng : g5 ≠ b3 := row_no_box HL.out ON.out x1 (fun z t => by cases t)
      have FIN : Hid (∃ g1 c1, (w5.setCell ⟨b3, 1, none⟩ (.slice (some ⟨g5, 0, none⟩) n c5)).cell? ⟨b3, 0, none⟩ = some (.int .i64 nodes) ∧ (w5.setCell ⟨b3, 1, none⟩ (.slice (some ⟨g5, 0, none⟩) n c5)).cell? ⟨b3, 1, none⟩ = some (.slice (some ⟨g1, 0, none⟩) n c1) ∧ (w5.setCell ⟨b3, 1, none⟩ (.slice (some ⟨g5, 0, none⟩) n c5)).ownsRow wa.heap.size 39 4 (.slice (some ⟨g1, 0, none⟩) (n + 1) c1) (n + 1) (evals es ++ ecells e7) ∧ g1 ≠ b3 ∧ Kept wa (w5.setCell ⟨b3, 1, none⟩ (.slice (some ⟨g5, 0, none⟩) n c5))) :=
        ⟨g5, c5, by rw [World.cell?_setCell_other _ _ _ _ (by simp)]; exact x0, World.cell?_setCell_same _ _ _ x1, ownsRow_setCell_other ON.out (fun e => ng (by simpa [Value.ownBlock] using e)) _, ng, Kept.setCell KX.out (p := ⟨b3, 1, none⟩) hw1 _⟩
      clear own grow rm mx rm2 rm3 rm4 KX x0 x1 x2 y0 y1 ON NW HM B1 B2 B3 ng
      go_wp2_with fail
      go_meet
      case rel => exact FIN.out
  case rest =>
  obtain ⟨gm, cm, m0, m1, OM, nm3, KM⟩ := hcut
  have OMH := hid_of OM
  have KMH := hid_of KM
  have hgm : wa.heap.size ≤ gm := (OM.lt gm rfl).1
  obtain ⟨rm, mx⟩ := owns_room OM
  have q0 := KM.cell ga0
  have q1 := KM.cell ga1
  have EM := hid_of (ERow.of_more HL.out OM)
  have v7 : wc.cell? ⟨gm, n * 4 + 2, none⟩ = some (.int .i64 (-7)) := by
    rw [OM.cellAt _ (by omega), List.getElem?_append_right (by rw [evals_len, HL.out]; omega), evals_len, HL.out, Nat.add_sub_cancel_left]
    rfl
  have hwc3 : b3 < wc.heap.size := World.block_lt_of_cell? _ _ m0
  have hwcm : gm < wc.heap.size := World.block_lt_of_cell? _ _ v7
  clear OM KM O2 c0 c1 K2H LT1 s0 s1 s2 HSZ
  go_wp2_with fail
  refine (from_calls nodes (some ⟨gm, 0, none⟩) n cm es wc EM.out (by omega) (fun t => by cases t) c a hf).mono ?_
  rintro r w6 ⟨ptr, rfl, K6, hp1, hp2⟩
  have K7 := K6.alloc (Obj.cells #[.int .i64 c, .int .i64 a] 28)
  have HP1 := hid_of hp1
  have HP2 : Hid (c = 0 → ∃ p, ptr = some ⟨p, 0, none⟩ ∧ NetAt (w6.alloc (Obj.cells #[.int .i64 c, .int .i64 a] 28)) wc.heap.size p nodes es) := fun t => by
    obtain ⟨p, e, N⟩ := hp2 t
    exact ⟨p, e, N.alloc _⟩
  have n0 := K7.cell m0
  have n1 := K7.cell m1
  have p0 := K7.cell q0
  have p1 := K7.cell q1
  have v8 := K7.cell v7
  have K7H := hid_of K7
  clear hp1 hp2 K6 K7
  go_wp2_with fail
  generalize hW7 : w6.alloc (Obj.cells #[.int .i64 c, .int .i64 a] 28) = W7 at HP2 n0 n1 p0 p1 v8 K7H ⊢
  clear hW7
  refine (rev_calls nodes (some ⟨gm, 0, none⟩) n cm es W7 (EM.out.kept K7H.out) (by omega) (fun t => by cases t)).mono ?_
  rintro r w8 ⟨ao8, cap8, rfl, O8, K8⟩
  have hw8 : W7.heap.size ≤ w8.heap.size := K8.size
  have K9 := K8.alloc (Obj.cells #[.int .i64 nodes, .slice ao8 n cap8] 24)
  have r0 : (w8.alloc (Obj.cells #[.int .i64 nodes, .slice ao8 n cap8] 24)).cell? ⟨w8.heap.size, 0, none⟩ = some (.int .i64 nodes) := by simp [go_sem]
  have r1 : (w8.alloc (Obj.cells #[.int .i64 nodes, .slice ao8 n cap8] 24)).cell? ⟨w8.heap.size, 1, none⟩ = some (.slice ao8 n cap8) := by simp [go_sem]
  have O9 := hid_of (O8.alloc (Obj.cells #[.int .i64 nodes, .slice ao8 n cap8] 24))
  have t0 := K9.cell n0
  have t1 := K9.cell n1
  have u0 := K9.cell p0
  have u1 := K9.cell p1
  have v9 := K9.cell v8
  have K9H := hid_of (K7H.out.trans K9)
  have HP3 : Hid (c = 0 → ∃ p, ptr = some ⟨p, 0, none⟩ ∧ NetAt (w8.alloc (Obj.cells #[.int .i64 nodes, .slice ao8 n cap8] 24)) wc.heap.size p nodes es) := fun t => by
    obtain ⟨p, e, N⟩ := HP2.out t
    exact ⟨p, e, N.kept K9⟩
  have hW7 : wc.heap.size ≤ W7.heap.size := K7H.out.size
  clear O8 K8 K9 n0 n1 p0 p1 v8 HP2
  go_wp2_with fail
  generalize hW9 : w8.alloc (Obj.cells #[.int .i64 nodes, .slice ao8 n cap8] 24) = W9 at r0 r1 O9 t0 t1 u0 u1 v9 K9H HP3 ⊢
  clear hW9
  generalize w8.heap.size = b6 at *
  have EG := hid_of (HA.out.kept (KMH.out.trans K9H.out))
  have EM9 := hid_of (EM.out.kept K9H.out)
  have SC := hid_of (fun W' (K : Kept W9 W') => same_calls nodes (some ⟨gm, 0, none⟩) ao n cm cap es W' (EM9.out.kept K) (EG.out.kept K))
  have hwr : IntKind.i64.wrap ((n : Int) + 1) = (n : Int) + 1 := by rw [IntKind.wrap_i64]; first | omega | (unfold wrap64; omega)
  have i1 : (n : Int) < (n : Int) + 1 := by omega
  have i2 : n < n + 1 := by omega
  have i3 : (n : Int) + 1 ≤ (cm : Int) := by omega
  have i4 : ((n : Int) + 1).toNat = n + 1 := by omega
  have i5 : ¬ (n : Int) + 1 < 0 := by omega
  have i6 : (0 : Int) ≤ (n : Int) + 1 := by omega
  refine Ord.region [(0, 1), (1, 1), (2, 2), (3, 0), (4, 0), (5, 0), (6, 1), (7, 0), (8, 1), (9, 0), (10, 0), (11, 0), (12, 0), (13, 1), (14, 0), (15, 0), (16, 0), (17, 1), (18, 0), (19, 0)] (fun w' => Kept W9 w') (by kernel_rfl) (by kernel_rfl) (by kernel_rfl) (by kernel_rfl) (fun _ _ d _ _ h => by cases d <;> exact h) ((Kept.refl _).drewN _) ?_
  repeat
    refine Ord.step rfl (fun Ko hK => ?_)
    simp only [Ord.body]
    go_simp
    first
      | (refine hK _ _ ?_; clear hK Ko)
      | (refine ⟨_, fun w' hS => (by have c0 := hS.cell t0; have c1 := hS.cell t1; simp only [c0, c1, Result.andThen]; rfl), hK _ _ ?_⟩; clear hK Ko)
      | (refine ⟨_, fun w' hS => (by have c0 := hS.cell u0; have c1 := hS.cell u1; simp only [c0, c1, Result.andThen]; rfl), hK _ _ ?_⟩; clear hK Ko)
      | (refine ⟨_, fun w' hS => (by have c1 := hS.cell t1; simp only [c1, Result.andThen]; rfl), hK _ _ ?_⟩; clear hK Ko)
      | (refine ⟨_, fun w' hS => (by have c1 := hS.cell u1; simp only [c1, Result.andThen]; rfl), hK _ _ ?_⟩; clear hK Ko)
      | (refine ⟨_, fun w' hS => (by have c1 := hS.cell v9; simp only [c1, Result.andThen]; rfl), hK _ _ ?_⟩; clear hK Ko)
      | (go_at_call 9; refine (SC.out _ ((Kept.refl _).drewN _)).mono ?_; rintro e wA ⟨rfl, KA1⟩; refine ⟨((Kept.refl _).drewN _).trans KA1, hK _ _ ?_⟩; clear hK Ko; have KAH := hid_of (((Kept.refl W9).drewN _).trans KA1); clear KA1)
  refine Ord.done ?_
  have a0 := KAH.out.cell t0
  have a1 := KAH.out.cell t1
  have b0 := KAH.out.cell u0
  have b1 := KAH.out.cell u1
  have d0 := KAH.out.cell r0
  have d1 := KAH.out.cell r1
  have OA := hid_of (ownsK OMH.out (K9H.out.trans KAH.out))
  have OR := hid_of (ownsK O9.out KAH.out)
  have KWA := hid_of (KMH.out.trans (K9H.out.trans KAH.out))
  have HP4 : Hid (c = 0 → ∃ p, ptr = some ⟨p, 0, none⟩ ∧ NetAt wA wc.heap.size p nodes es) := fun t => by
    obtain ⟨p, e, N⟩ := HP3.out t
    exact ⟨p, e, N.kept KAH.out⟩
  clear t0 t1 u0 u1 v9 r0 r1 SC EG EM9 HP3 O9 K9H OMH KMH EM KAH v7 m0 m1 q0 q1 K7H i1 i2 i3 i4 i5 i6 hwr
  go_wp2_with fail
  go_loopw [56] (fun i wr => ∃ k : Nat, k ≤ n ∧ i = .int .i64 (k : Int) ∧ (∃ xs, wr.ownsRow wa.heap.size 39 4 (.slice (some ⟨gm, 0, none⟩) (n + 1) cm) (n + 1) xs) ∧ Ch (fun x => x = gm) wA wr) (fun i _ => n - (intOf i).toNat)
  case atStart => exact ⟨0, by omega, rfl, ⟨_, OA.out⟩, Ch.refl _ _⟩
  case round =>
    obtain ⟨k, hk, rfl, ⟨xs, O⟩, C⟩ := hrel
    have OH := hid_of O
    have CH := hid_of C
    have x1 := C.cell a1 (Ne.symm nm3)
    clear OA
    by_cases hgo : (k : Int) < (n : Int)
    · obtain ⟨z1, e1⟩ := owns_some O (k * 4) (by omega)
      obtain ⟨z2, e2⟩ := owns_some O (k * 4 + 1) (by omega)
      obtain ⟨z3, e3⟩ := owns_some O (k * 4 + 2) (by omega)
      obtain ⟨z4, e4⟩ := owns_some O (k * 4 + 3) (by omega)
      have f1 := O.frozenAt (k * 4)
      have f2 := O.frozenAt (k * 4 + 1)
      have f3 := O.frozenAt (k * 4 + 2)
      have f4 := O.frozenAt (k * 4 + 3)
      clear O C
      go_wp2_with fail
      have ON := (((((OH.out.stored (k * 4) (.int .i64 0)).1.stored (k * 4 + 1) (.int .i64 0)).1.stored (k * 4 + 2) (.int .i64 (-9))).1.stored (k * 4 + 3) (.int .i64 0)).1)
      have CN := (((CH.out.setCell (F := fun x => x = gm) (p := ⟨gm, k * 4, none⟩) rfl (.int .i64 0)).setCell (F := fun x => x = gm) (p := ⟨gm, k * 4 + 1, none⟩) rfl (.int .i64 0)).setCell (F := fun x => x = gm) (p := ⟨gm, k * 4 + 2, none⟩) rfl (.int .i64 (-9))).setCell (F := fun x => x = gm) (p := ⟨gm, k * 4 + 3, none⟩) rfl (.int .i64 0)
      have ONH := hid_of ON
      have CNH := hid_of CN
      clear ON CN OH CH e1 e2 e3 e4 f1 f2 f3 f4 x1
      go_roundw
      case rel => exact ⟨k + 1, by omega, by go_num, ⟨_, ONH.out⟩, CNH.out⟩
      case measure => simp [intOf]; omega
    · have y0 := C.cell b0 (show ¬ w.heap.size = gm by omega)
      have y1 := C.cell b1 (show ¬ w.heap.size = gm by omega)
      have hb6 : ¬ b6 = gm := by omega
      have s0 := C.cell d0 hb6
      have s1 := C.cell d1 hb6
      have OR2 := hid_of (C.owns OR.out (fun k e t => by have := (OR.out.lt k e).1; omega))
      have KW2 : Kept wa wr := KWA.out.ch C (fun k t => by omega)
      have EG2 := hid_of (HA.out.kept KW2)
      have KW2H := hid_of KW2
      have HP5 : Hid (c = 0 → ∃ p, ptr = some ⟨p, 0, none⟩ ∧ NetAt wr wc.heap.size p nodes es) := fun t => by
        obtain ⟨p, e, N⟩ := HP4.out t
        exact ⟨p, e, N.far C (fun k t => by omega)⟩
      clear O C OH CH x1 a0 a1 b0 b1 d0 d1 OR KWA HP4 KW2
      go_wp2_with fail
      clear hk hgo
      have RC := hid_of (fun W' (K : Kept wr W') => revR_calls nodes ao n cap es W' (EG2.out.kept K) (by omega))
      have SC := hid_of (fun W' (K : Kept wr W') bo cbp (E : ERow W' bo n cbp (es.map turn)) => same_calls nodes ao8 bo n cap8 cbp (es.map turn) W' ((ERow.of_owns OR2.out).kept K) E)
      refine Ord.region [(0, 1), (1, 1), (2, 2), (3, 2), (4, 0)] (fun w' => Kept wr w') (by kernel_rfl) (by kernel_rfl) (by kernel_rfl) (by kernel_rfl) (fun _ _ d _ _ h => by cases d <;> exact h) ((Kept.refl _).drewN _) ?_
      repeat
        refine Ord.step rfl (fun Ko hK => ?_)
        simp only [Ord.body]
        go_simp
        first
          | (refine hK _ _ ?_; clear hK Ko)
          | (refine ⟨_, fun w' hS => (by have c0 := hS.cell s0; have c1 := hS.cell s1; simp only [c0, c1, Result.andThen]; rfl), hK _ _ ?_⟩; clear hK Ko)
          | (refine ⟨_, fun w' hS => (by have c0 := hS.cell y0; have c1 := hS.cell y1; simp only [c0, c1, Result.andThen]; rfl), hK _ _ ?_⟩; clear hK Ko)
          | (go_at_call 11; refine (RC.out _ ((Kept.refl _).drewN _)).mono ?_; rintro e wB ⟨aoB, capB, rfl, OB, KB⟩; refine ⟨((Kept.refl _).drewN _).trans KB, hK _ _ ?_⟩; clear hK Ko; have KBH := hid_of (((Kept.refl wr).drewN _).trans KB); have OBH := hid_of OB; clear KB OB)
          | (go_at_call 9; refine (SC.out _ KBH.out _ _ (ERow.of_owns OBH.out)).mono ?_; rintro e wC ⟨rfl, KC⟩; refine ⟨KBH.out.trans KC, hK _ _ ?_⟩; clear hK Ko; have KCH := hid_of (KBH.out.trans KC); clear KC)
      refine Ord.done ?_
      have KW3 := hid_of (KW2H.out.trans KCH.out)
      have EG3 := hid_of (EG2.out.kept KCH.out)
      have w0 := KCH.out.cell y0
      have w1' := KCH.out.cell y1
      have HP6 : Hid (c = 0 → ∃ p, ptr = some ⟨p, 0, none⟩ ∧ NetAt wC wc.heap.size p nodes es) := fun t => by
        obtain ⟨p, e, N⟩ := HP5.out t
        exact ⟨p, e, N.kept KCH.out⟩
      clear RC SC KBH OBH OR2 s0 s1 y0 y1 EG2 KW2H HP5
      by_cases hc : c = 0
      · obtain ⟨p, rfl, N⟩ := HP6.out hc
        have NH := hid_of N
        clear N HP6 HP1 KCH
        go_wp2_with fail
        have PC := hid_of (fun W' (K : Kept wC W') => plain_calls W' wc.heap.size p nodes es (NH.out.kept K) (by rw [HL.out]; omega))
        rw [HL.out] at PC
        go_cut [8, 9] (fun x y wx => ∃ b8 b9 aA cA aB cB, x = .pointer (some ⟨b8, 0, none⟩) ∧ y = .pointer (some ⟨b9, 0, none⟩) ∧ Two8 wC wx b8 b9 aA cA aB cB nodes n es)
        case first =>
          go_region_with (go_at_call 13; first
            | (refine (PC.out _ (Kept.trans KC1.out (((Kept.refl wP1).alloc (Obj.cells #[.int .i64 0, .slice none 0 0] 24)).alloc (Obj.cells #[.int .i64 0, .slice none 0 0] 24)))).mono ?_; rintro e wP2 ⟨aB, cB, rfl, OB, KP2⟩; have ks2 : wP1.heap.size + 2 ≤ wP2.heap.size := (by have := KP2.size; simpa using this); have LB : Hid (∀ k, (Value.slice aB n cB).ownBlock = some k → wP1.heap.size + 2 ≤ k ∧ k < wP2.heap.size) := (fun k e => ⟨by have := (OB.lt k e).1; simpa using this, (OB.lt k e).2⟩); have OBH := hid_of (OB.mono (base' := wC.heap.size) (by have := KC1.out.size; simp; omega)); have KC2 : Hid (Kept wP1 wP2) := hid_of (Kept.trans (((Kept.refl wP1).alloc (Obj.cells #[.int .i64 0, .slice none 0 0] 24)).alloc (Obj.cells #[.int .i64 0, .slice none 0 0] 24)) KP2); have bd := Box.kept ((Box.new wP1 wP1.heap.size rfl).kept ((Kept.refl _).alloc _)) KP2; have bd0 := bd.c0; have bd1 := bd.c1; have bd2 := bd.f0; have bd3 := bd.f1; have bd4 := bd.lt; have bdH := hid_of bd; clear bd; have be := Box.kept (Box.new (wP1.alloc (Obj.cells #[.int .i64 0, .slice none 0 0] 24)) (wP1.heap.size + 1) (by simp)) KP2; have be0 := be.c0; have be1 := be.c1; have be2 := be.f0; have be3 := be.f1; have be4 := be.lt; have beH := hid_of be; clear be; have PRE : Hid (Pre wC wP2 aA cA aB cB n es) := ⟨ownsK OAH.out KC2.out, OBH.out, fun k e t => by have h1 := LA.out k e; have h2 := LB.out k t; omega, KC1.out.trans KC2.out⟩; (first | (have ca := baH.out.kept KC2.out; have ca0 := ca.c0; have ca1 := ca.c1; have ca2 := ca.f0; have ca3 := ca.f1; have ca4 := ca.lt; have caH := hid_of ca; clear ca) | skip); (first | (have cb := bbH.out.kept KC2.out; have cb0 := cb.c0; have cb1 := cb.c1; have cb2 := cb.f0; have cb3 := cb.f1; have cb4 := cb.lt; have cbH := hid_of cb; clear cb) | skip); clear OB KP2)
            | (refine (PC.out _ (Kept.trans KC1.out ((Kept.refl wP1).alloc (Obj.cells #[.int .i64 0, .slice none 0 0] 24)))).mono ?_; rintro e wP2 ⟨aB, cB, rfl, OB, KP2⟩; have ks2 : wP1.heap.size + 1 ≤ wP2.heap.size := (by have := KP2.size; simpa using this); have LB : Hid (∀ k, (Value.slice aB n cB).ownBlock = some k → wP1.heap.size + 1 ≤ k ∧ k < wP2.heap.size) := (fun k e => ⟨by have := (OB.lt k e).1; simpa using this, (OB.lt k e).2⟩); have OBH := hid_of (OB.mono (base' := wC.heap.size) (by have := KC1.out.size; simp; omega)); have KC2 : Hid (Kept wP1 wP2) := hid_of (Kept.trans ((Kept.refl wP1).alloc (Obj.cells #[.int .i64 0, .slice none 0 0] 24)) KP2); have bd := Box.kept (Box.new wP1 wP1.heap.size rfl) KP2; have bd0 := bd.c0; have bd1 := bd.c1; have bd2 := bd.f0; have bd3 := bd.f1; have bd4 := bd.lt; have bdH := hid_of bd; clear bd; have PRE : Hid (Pre wC wP2 aA cA aB cB n es) := ⟨ownsK OAH.out KC2.out, OBH.out, fun k e t => by have h1 := LA.out k e; have h2 := LB.out k t; omega, KC1.out.trans KC2.out⟩; (first | (have ca := baH.out.kept KC2.out; have ca0 := ca.c0; have ca1 := ca.c1; have ca2 := ca.f0; have ca3 := ca.f1; have ca4 := ca.lt; have caH := hid_of ca; clear ca) | skip); (first | (have cb := bbH.out.kept KC2.out; have cb0 := cb.c0; have cb1 := cb.c1; have cb2 := cb.f0; have cb3 := cb.f1; have cb4 := cb.lt; have cbH := hid_of cb; clear cb) | skip); clear OB KP2)
            | (refine (PC.out _ (Kept.trans KC1.out (Kept.refl wP1))).mono ?_; rintro e wP2 ⟨aB, cB, rfl, OB, KP2⟩; have ks2 : wP1.heap.size + 0 ≤ wP2.heap.size := (by have := KP2.size; simpa using this); have LB : Hid (∀ k, (Value.slice aB n cB).ownBlock = some k → wP1.heap.size + 0 ≤ k ∧ k < wP2.heap.size) := (fun k e => ⟨by have := (OB.lt k e).1; simpa using this, (OB.lt k e).2⟩); have OBH := hid_of (OB.mono (base' := wC.heap.size) (by have := KC1.out.size; simp; omega)); have KC2 : Hid (Kept wP1 wP2) := hid_of (Kept.trans (Kept.refl wP1) KP2); have PRE : Hid (Pre wC wP2 aA cA aB cB n es) := ⟨ownsK OAH.out KC2.out, OBH.out, fun k e t => by have h1 := LA.out k e; have h2 := LB.out k t; omega, KC1.out.trans KC2.out⟩; (first | (have ca := baH.out.kept KC2.out; have ca0 := ca.c0; have ca1 := ca.c1; have ca2 := ca.f0; have ca3 := ca.f1; have ca4 := ca.lt; have caH := hid_of ca; clear ca) | skip); (first | (have cb := bbH.out.kept KC2.out; have cb0 := cb.c0; have cb1 := cb.c1; have cb2 := cb.f0; have cb3 := cb.f1; have cb4 := cb.lt; have cbH := hid_of cb; clear cb) | skip); clear OB KP2)
            | (refine (PC.out _ (Kept.alloc (Kept.alloc (Kept.refl wC).drew (Obj.cells #[.int .i64 0, .slice none 0 0] 24)) (Obj.cells #[.int .i64 0, .slice none 0 0] 24))).mono ?_; rintro e wP1 ⟨aA, cA, rfl, OA, KP1⟩; have ks1 : wC.heap.size + 2 ≤ wP1.heap.size := (by have := KP1.size; simpa using this); have LA : Hid (∀ k, (Value.slice aA n cA).ownBlock = some k → wC.heap.size + 2 ≤ k ∧ k < wP1.heap.size) := (fun k e => ⟨by have := (OA.lt k e).1; simpa using this, (OA.lt k e).2⟩); have OAH := hid_of (OA.mono (base' := wC.heap.size) (by simp <;> omega)); have KC1 : Hid (Kept wC wP1) := hid_of (Kept.trans (Kept.alloc (Kept.alloc (Kept.refl wC).drew (Obj.cells #[.int .i64 0, .slice none 0 0] 24)) (Obj.cells #[.int .i64 0, .slice none 0 0] 24)) KP1); have ba := Box.kept ((Box.new wC.drew wC.heap.size rfl).kept ((Kept.refl _).alloc _)) KP1; have ba0 := ba.c0; have ba1 := ba.c1; have ba2 := ba.f0; have ba3 := ba.f1; have ba4 := ba.lt; have baH := hid_of ba; clear ba; have bb := Box.kept (Box.new (wC.drew.alloc (Obj.cells #[.int .i64 0, .slice none 0 0] 24)) (wC.heap.size + 1) (by simp)) KP1; have bb0 := bb.c0; have bb1 := bb.c1; have bb2 := bb.f0; have bb3 := bb.f1; have bb4 := bb.lt; have bbH := hid_of bb; clear bb; clear OA KP1)
            | (refine (PC.out _ (Kept.alloc (Kept.refl wC).drew (Obj.cells #[.int .i64 0, .slice none 0 0] 24))).mono ?_; rintro e wP1 ⟨aA, cA, rfl, OA, KP1⟩; have ks1 : wC.heap.size + 1 ≤ wP1.heap.size := (by have := KP1.size; simpa using this); have LA : Hid (∀ k, (Value.slice aA n cA).ownBlock = some k → wC.heap.size + 1 ≤ k ∧ k < wP1.heap.size) := (fun k e => ⟨by have := (OA.lt k e).1; simpa using this, (OA.lt k e).2⟩); have OAH := hid_of (OA.mono (base' := wC.heap.size) (by simp <;> omega)); have KC1 : Hid (Kept wC wP1) := hid_of (Kept.trans (Kept.alloc (Kept.refl wC).drew (Obj.cells #[.int .i64 0, .slice none 0 0] 24)) KP1); have ba := Box.kept (Box.new wC.drew wC.heap.size rfl) KP1; have ba0 := ba.c0; have ba1 := ba.c1; have ba2 := ba.f0; have ba3 := ba.f1; have ba4 := ba.lt; have baH := hid_of ba; clear ba; clear OA KP1)
            | (refine (PC.out _ (Kept.refl wC).drew).mono ?_; rintro e wP1 ⟨aA, cA, rfl, OA, KP1⟩; have ks1 : wC.heap.size + 0 ≤ wP1.heap.size := (by have := KP1.size; simpa using this); have LA : Hid (∀ k, (Value.slice aA n cA).ownBlock = some k → wC.heap.size + 0 ≤ k ∧ k < wP1.heap.size) := (fun k e => ⟨by have := (OA.lt k e).1; simpa using this, (OA.lt k e).2⟩); have OAH := hid_of (OA.mono (base' := wC.heap.size) (by simp <;> omega)); have KC1 : Hid (Kept wC wP1) := hid_of (Kept.trans (Kept.refl wC).drew KP1); clear OA KP1))
          all_goals
            go_wp2_with fail
            go_meet
            case rel =>
              refine ⟨_, _, aA, cA, aB, cB, rfl, rfl, ?_⟩
              first
                | exact PRE.out.s1
                | exact PRE.out.swap.s1.swap
                | (refine PRE.out.s2 ?_ ?_ ?_ ?_ <;> first | exact caH.out | exact bdH.out | omega | (intro k e; have h1 := LA.out k e; omega) | (intro k e; have h1 := LB.out k e; omega))
                | (refine (PRE.out.swap.s2 ?_ ?_ ?_ ?_).swap <;> first | exact caH.out | exact bdH.out | omega | (intro k e; have h1 := LA.out k e; omega) | (intro k e; have h1 := LB.out k e; omega))
                | (refine PRE.out.s3 ?_ ?_ ?_ ?_ ?_ ?_ ?_ <;> first | exact caH.out | exact cbH.out | exact bdH.out | exact beH.out | omega | (intro k e; have h1 := LA.out k e; omega) | (intro k e; have h1 := LB.out k e; omega))
        case rest =>
        obtain ⟨b8, b9, aA, cA, aB, cB, rfl, rfl, T8⟩ := hcut
        have T8H := hid_of T8
        have F8 : Hid (∃ F : Nat → Prop, F = fun k => k = b8 ∨ (Value.slice aA n cA).ownBlock = some k) := ⟨_, rfl⟩
        obtain ⟨F, hF⟩ := F8.out
        have HF := hid_of hF
        clear hF F8
        have S0 : Hid (Spoil wC wc wc F b8 n) := ⟨⟨aA, cA, _, T8.a1, T8.oa, fun k e => ⟨(T8.na k e).1, .inl (by rw [HF.out]; exact .inr e)⟩⟩, T8.az, Ch.refl _ _⟩
        have FB : Hid (F b8) := by rw [HF.out]; exact .inl rfl
        have a1 := T8.a1
        have hl8 : b8 < wc.heap.size := World.block_lt_of_cell? _ _ T8.a1
        clear T8 PC
        go_wp2_with fail
        go_loopw [83] (fun i wr => ∃ q : Nat, q ≤ n ∧ i = .int .i64 (q : Int) ∧ Spoil wC wc wr F b8 n) (fun i _ => n - (intOf i).toNat)
        case atStart => exact ⟨0, by omega, rfl, S0.out⟩
        case round =>
          obtain ⟨q, hq, rfl, S⟩ := hrel
          have SH := hid_of S
          obtain ⟨aX, cX, xs, x1, O, nX⟩ := S.ex
          clear S S0 a1
          by_cases hgo : (q : Int) < (n : Int)
          · obtain ⟨g8, c8, e8, -, -⟩ := O.form (by omega)
            simp only [Value.slice.injEq, true_and] at e8
            obtain ⟨rfl, rfl⟩ := e8
            obtain ⟨r1, r2⟩ := owns_room O
            obtain ⟨ng8, fg8⟩ := nX g8 rfl
            obtain ⟨z1, e1⟩ := owns_some O (q * 4) (by omega)
            obtain ⟨z2, e2⟩ := owns_some O (q * 4 + 1) (by omega)
            obtain ⟨z3, e3⟩ := owns_some O (q * 4 + 2) (by omega)
            obtain ⟨z4, e4⟩ := owns_some O (q * 4 + 3) (by omega)
            have f1 := O.frozenAt (q * 4)
            have f2 := O.frozenAt (q * 4 + 1)
            have f3 := O.frozenAt (q * 4 + 2)
            have f4 := O.frozenAt (q * 4 + 3)
            have OH := hid_of O
            have X1 := hid_of x1
            have FG := hid_of fg8
            clear O nX fg8
            go_wp2_with fail
            have ON := (((((OH.out.stored (q * 4) (.int .i64 0)).1.stored (q * 4 + 1) (.int .i64 0)).1.stored (q * 4 + 2) (.int .i64 (-5))).1.stored (q * 4 + 3) (.int .i64 0)).1)
            have G4 : Ch (fun x => x = g8) wr ((((wr.setCell ⟨g8, q * 4, none⟩ (.int .i64 0)).setCell ⟨g8, q * 4 + 1, none⟩ (.int .i64 0)).setCell ⟨g8, q * 4 + 2, none⟩ (.int .i64 (-5))).setCell ⟨g8, q * 4 + 3, none⟩ (.int .i64 0)) :=
              ((((Ch.refl (fun x => x = g8) wr).setCell (F := fun x => x = g8) (p := ⟨g8, q * 4, none⟩) rfl _).setCell (F := fun x => x = g8) (p := ⟨g8, q * 4 + 1, none⟩) rfl _).setCell (F := fun x => x = g8) (p := ⟨g8, q * 4 + 2, none⟩) rfl _).setCell (F := fun x => x = g8) (p := ⟨g8, q * 4 + 3, none⟩) rfl _
            have SN : Hid (Spoil wC wc ((((wr.setCell ⟨g8, q * 4, none⟩ (.int .i64 0)).setCell ⟨g8, q * 4 + 1, none⟩ (.int .i64 0)).setCell ⟨g8, q * 4 + 2, none⟩ (.int .i64 (-5))).setCell ⟨g8, q * 4 + 3, none⟩ (.int .i64 0)) F b8 n) :=
              ⟨⟨some ⟨g8, 0, none⟩, cX, _, G4.cell X1.out (Ne.symm ng8), ON, fun k e => by simp only [Value.ownBlock, Option.some.injEq] at e; subst e; exact ⟨ng8, FG.out⟩⟩, (G4.frozen (World.block_lt_of_cell? _ _ X1.out) (Ne.symm ng8)).trans SH.out.z, SH.out.ch.trans' G4 (fun i e => by subst e; exact FG.out)⟩
            clear ON G4 OH X1 FG e1 e2 e3 e4 f1 f2 f3 f4 x1 SH
            go_roundw
            case rel => exact ⟨q + 1, by omega, by go_num, SN.out⟩
            case measure => simp [intOf]; omega
          · clear x1 O nX
            go_wp2_with fail
            clear hgo hq
            have S1 : Hid (∃ m, m ≤ n + 0 ∧ Spoil wC wc wr F b8 m) := ⟨n, by omega, SH.out⟩
            clear SH
            go_loopw [11] (fun i wr => ∃ q : Nat, q ≤ 8 ∧ i = .int .i64 (q : Int) ∧ ∃ m, m ≤ n + q ∧ Spoil wC wc wr F b8 m) (fun i _ => 8 - (intOf i).toNat)
            case atStart => exact ⟨0, by omega, rfl, S1.out⟩
            case round =>
              obtain ⟨q, hq, rfl, m, hm, S⟩ := hrel
              have SH := hid_of S
              obtain ⟨aX, cX, xs, x1, O, nX⟩ := S.ex
              clear S S1
              by_cases hgo : (q : Int) < 8
              · have nb : (Value.slice aX m cX).ownBlock ≠ some b8 := fun e => (nX b8 e).1 rfl
                have NW := hid_of (cell_new4 wr 39 ⟨0, 0, -5, 0⟩)
                have HM := hid_of (O.alloc (Obj.cells #[.int .i64 0, .int .i64 0, .int .i64 (-5), .int .i64 0] 39))
                have B1 : Hid (m + 1 ≤ maxLen) := by show m + 1 ≤ maxLen; unfold maxLen; omega
                have B2 : Hid ((m + 1) * 32 ≤ 140737488355328) := by show (m + 1) * 32 ≤ 140737488355328; have := HN4.out hc; omega
                have lb := World.block_lt_of_cell? _ _ x1
                simp only at lb
                have hCw : wC.heap.size ≤ wr.heap.size := Nat.le_trans T8H.out.kept.size SH.out.ch.size
                have hcw : wc.heap.size ≤ wr.heap.size := SH.out.ch.size
                have NX := hid_of nX
                have X1 := hid_of x1
                have OLT := hid_of (fun k e => (O.lt k e).2)
                have KAl : Kept wr (wr.alloc (Obj.cells #[.int .i64 0, .int .i64 0, .int .i64 (-5), .int .i64 0] 39)) := (Kept.refl wr).alloc _
                clear O nX
                go_wp2_with (at_builtin; refine wpList_append_own_at _ rfl _ _ 22 rfl wC.heap.size 39 i0 _ 4 32 Try.underlying22 hi hz0 hz1 hz2 rfl (by decide) _ _ _ rfl HM.out ⟨wr.heap.size, 0, none⟩ 1 1 (ecells ⟨0, 0, -5, 0⟩) rfl rfl NW.out (ecells_one _) B1.out B2.out (by simp; omega) ?_)
                intro v' w7 own grow _ ha
                obtain ⟨aN, cN, rfl⟩ := owns_slice4 own
                have KA1 := KAl.cell X1.out
                have y1 := grow.cell KA1 (fun e => nb e.symm)
                have y2 : w7.frozen? ⟨b8, 1, none⟩ = false := (World.frozen?_of_block (a := ⟨b8, 1, none⟩) (grow.block b8 (World.block_lt_of_cell? _ _ KA1) (fun e => nb e.symm))).trans ((Below.frozen (p := ⟨b8, 1, none⟩) KAl lb).trans SH.out.z)
                have nN : ∀ k, (Value.slice aN (m + 1) cN).ownBlock = some k → k ≠ b8 ∧ (F k ∨ wc.heap.size ≤ k) := fun k e => by
                  rcases ha with t | t
                  · rw [t] at e; exact NX.out k e
                  · rw [t] at e
                    simp only [Option.some.injEq] at e
                    have : (wr.alloc (Obj.cells #[.int .i64 0, .int .i64 0, .int .i64 (-5), .int .i64 0] 39)).heap.size = wr.heap.size + 1 := by simp
                    exact ⟨by omega, .inr (by omega)⟩
                have C7 : Ch F wc w7 := SH.out.ch.trans' ((Ch.of_kept (F := fun k => (Value.slice aX m cX).ownBlock = some k) KAl).trans (.of_grown grow (fun k e => e))) (fun k e => (NX.out k e).2)
                have SN : Hid (Spoil wC wc (w7.setCell ⟨b8, 1, none⟩ (.slice aN (m + 1) cN)) F b8 (m + 1)) :=
                  ⟨⟨aN, cN, _, World.cell?_setCell_same _ _ _ y1, ownsRow_setCell_other own (fun e => (nN b8 e).1 rfl) _, nN⟩, by simpa [go_sem] using y2, C7.setCell (p := ⟨b8, 1, none⟩) FB.out _⟩
                clear own grow ha HM NW B1 B2 nN C7 NX X1 KA1 SH x1 OLT KAl
                go_wp2_with fail
                go_roundw
                case rel => exact ⟨q + 1, by omega, by go_num, m + 1, by omega, SN.out⟩
                case measure => simp [intOf]; omega
              · have CF := hid_of SH.out.ch
                clear x1 O nX SH
                have nFC : ∀ k, F k → wC.heap.size ≤ k := fun k t => by
                  rw [HF.out] at t
                  rcases t with t | t
                  · rw [t]; exact T8H.out.l8
                  · exact (T8H.out.oa.lt k t).1
                have KCr : Kept wC wr := T8H.out.kept.ch CF.out nFC
                have n9 : ¬ F b9 := fun t => by
                  rw [HF.out] at t
                  rcases t with t | t
                  · exact T8H.out.n89 t.symm
                  · exact (T8H.out.na _ t).2 rfl
                have e0 := CF.out.cell T8H.out.b0 n9
                have e1 := CF.out.cell T8H.out.b1 n9
                have OB := CF.out.owns T8H.out.ob (fun k e t => by
                  rw [HF.out] at t
                  rcases t with t | t
                  · exact (T8H.out.nb k e).1 t
                  · exact T8H.out.nab k t e)
                have h0 := KCr.cell w0
                have h1 := KCr.cell w1'
                have EGr := EG3.out.kept KCr
                have SC1 := hid_of (fun W' (K : Kept wr W') => same_calls nodes aB ao n cB cap es W' ((ERow.of_owns OB).kept K) (EGr.kept K))
                have PC : Hid (∀ W', Kept wr W' → Calls Try.prog 13 #[.pointer (some ⟨p, 0, none⟩)] W' fun v w' => ∃ ao' cap', v = .returned (.agg #[.int .i64 nodes, .slice ao' n cap']) ∧ w'.ownsRow W'.heap.size 39 4 (.slice ao' n cap') n (evals es) ∧ Kept W' w') := fun W' K => by
                  have := plain_calls W' _ p nodes es ((NH.out.kept KCr).kept K) (by rw [HL.out]; omega)
                  rw [HL.out] at this
                  exact this
                have SC2 := hid_of (fun W' (K : Kept wr W') a2 c2 (E : ERow W' a2 n c2 es) => same_calls nodes a2 ao n c2 cap es W' E (EGr.kept K))
                have KFIN := hid_of ((KA.out.trans KW3.out).trans KCr)
                clear OB EGr nFC n9 KCr T8H HF FB CF NH EG3 KW3 KA w0 w1'
                go_wp2_with fail
                refine Ord.region [(0, 1), (1, 1), (2, 2), (3, 0), (4, 0), (5, 0), (6, 0), (8, 1), (7, 2), (9, 2), (10, 0), (11, 0)] (fun w' => Kept wr w') (by kernel_rfl) (by kernel_rfl) (by kernel_rfl) (by kernel_rfl) (fun _ _ d _ _ h => by cases d <;> exact h) ((Kept.refl _).drewN _) ?_
                repeat
                  refine Ord.step rfl (fun Ko hK => ?_)
                  simp only [Ord.body]
                  go_simp
                  first
                    | (refine hK _ _ ?_; clear hK Ko)
                    | (refine ⟨_, fun w' hS => (by have c0 := hS.cell e0; have c1 := hS.cell e1; simp only [c0, c1, Result.andThen]; rfl), hK _ _ ?_⟩; clear hK Ko)
                    | (refine ⟨_, fun w' hS => (by have c0 := hS.cell h0; have c1 := hS.cell h1; simp only [c0, c1, Result.andThen]; rfl), hK _ _ ?_⟩; clear hK Ko)
                    | (go_at_call 9; refine (SC1.out _ ((Kept.refl _).drewN _)).mono ?_; rintro e wE ⟨rfl, KE⟩; refine ⟨((Kept.refl _).drewN _).trans KE, hK _ _ ?_⟩; clear hK Ko; have KEH := hid_of (((Kept.refl wr).drewN _).trans KE); clear KE SC1)
                    | (go_at_call 13; refine (PC.out _ KEH.out).mono ?_; rintro e wG ⟨aG, cG, rfl, OG, KG2⟩; refine ⟨KEH.out.trans KG2, hK _ _ ?_⟩; clear hK Ko; have KGH := hid_of (KEH.out.trans KG2); have OGH := hid_of OG; clear OG KG2 PC)
                    | (go_at_call 9; refine (SC2.out _ KGH.out _ _ (ERow.of_owns OGH.out)).mono ?_; rintro e wH ⟨rfl, KH2⟩; refine ⟨KGH.out.trans KH2, hK _ _ ?_⟩; clear hK Ko; have KHH := hid_of (KGH.out.trans KH2); clear KH2)
                refine Ord.done ?_
                go_wp2_with fail
                go_ret
                exact ⟨rfl, KFIN.out.trans KHH.out⟩
      · have e := HP1.out hc
        subst e
        clear HP6 HP1 KCH
        go_wp2_with fail
        go_ret
        exact ⟨rfl, KA.out.trans KW3.out⟩
end Go.Proofs.Ytjbodameaeaaeaa

/- Visit: its state in memory; the function that comes to a node. -/
import Derived.Test.YtjheiaegpoppaaaWkR
import Derived.Test.YtjheiaegpoppaaaWkD
import Derived.WalkSmall
import Derived.Deep.AppendLies
namespace Go.Proofs.Ytjheiaegpoppaaa
open Go.RowKit

/-- What changes while nodes are visited: the two rows of times, the clock, the box of the open nodes, the row of what is left. -/
def five (gp gq bk bo q : Nat) : Nat → Prop := fun k => k = gp ∨ k = gq ∨ k = bk ∨ k = bo ∨ k = q

/-- A slice of int that holds these nodes; its cells are as they were in W. -/
structure RemAt (W : World) (F : Nat → Prop) (sv : Value) (l : List Nat) : Prop where
  ex : ∃ so sc, sv = .slice so l.length sc ∧ l.length ≤ sc ∧ sc ≤ maxLen ∧ (0 < l.length → ∃ b off, so = some ⟨b, off, none⟩ ∧ ¬ F b ∧ ∀ j, j < l.length → W.cell? ⟨b, off + j, none⟩ = some (.int .i64 ((l.getD j 0 : Nat) : Int)))

/-- The state of the visit, from the world W on in which it was begun; st: the open nodes, the deepest first. -/
structure VAt (W w : World) (gp gq bk bo q n : Nat) (s : Tm) (st : List Nat) (rem : Nat → List Nat) : Prop where
  ch : Ch (five gp gq bk bo q) W w
  pre : IntsAt w gp n s.pre
  post : IntsAt w gq n s.post
  clk : w.cell? ⟨bk, 0, none⟩ = some (.int .i64 (s.clk : Int))
  kz : w.frozen? ⟨bk, 0, none⟩ = false
  box : ∃ so sc, w.cell? ⟨bo, 0, none⟩ = some (.slice so st.length sc) ∧ w.ownsRow W.heap.size 3 1 (.slice so st.length sc) st.length (jvals (qz st.reverse))
  oz : w.frozen? ⟨bo, 0, none⟩ = false
  row : ∃ sv : Nat → Value, w.rowIs q 26 n sv ∧ ∀ v, v < n → RemAt W (five gp gq bk bo q) (sv v) (rem v)

/-- The blocks are apart and are all there from the beginning. -/
structure Apart5 (W : World) (gp gq bk bo q : Nat) : Prop where
  l1 : gp < W.heap.size
  l2 : gq < W.heap.size
  l3 : bk < W.heap.size
  l4 : bo < W.heap.size
  l5 : q < W.heap.size
  d12 : gp ≠ gq
  d13 : gp ≠ bk
  d14 : gp ≠ bo
  d15 : gp ≠ q
  d23 : gq ≠ bk
  d24 : gq ≠ bo
  d25 : gq ≠ q
  d34 : bk ≠ bo
  d35 : bk ≠ q
  d45 : bo ≠ q

set_option maxRecDepth 100000 in
set_option maxHeartbeats 4000000 in
theorem vcl_calls (W w : World) (gp gq bk bo q bp n : Nat) (hn : n ≤ 1024) (hA : Hid (Apart5 W gp gq bk bo q)) (kp : W.cell? ⟨bp, 0, none⟩ = some (.slice (some ⟨gp, 0, none⟩) n n)) (np : ¬ five gp gq bk bo q bp)
    (s : Tm) (st : List Nat) (rem : Nat → List Nat) (hst : st.length < n) (hclk : s.clk ≤ 4096) (H : VAt W w gp gq bk bo q n s st rem) (v : Nat) (hv : v < n) :
    Calls Try.prog 30 #[.int .i64 (v : Int), .pointer (some ⟨bk, 0, none⟩), .pointer (some ⟨bp, 0, none⟩), .pointer (some ⟨bo, 0, none⟩)] w fun r w' => r = .returned (.tuple #[]) ∧ VAt W w' gp gq bk bo q n (s.ent v) (v :: st) rem := by
  obtain ⟨i0, hi, hz0, hz1, hz2⟩ := infoJ
  have A := hA.out
  have p0 := H.ch.cell kp np
  have cv := H.pre.cell hv
  have fv := World.rowIs.frozen H.pre v
  have k0 := H.clk
  have kz := H.kz
  have hvi : (v : Int) < (n : Int) := by omega
  have lw := H.ch.size
  obtain ⟨so, sc, hbx, hown⟩ := H.box
  have hoz := H.oz
  obtain ⟨lo, hlo⟩ : ∃ lo, st.length = lo := ⟨_, rfl⟩
  rw [hlo] at hbx hown hst
  have HLO := hid_of hlo
  obtain ⟨c, hc⟩ : ∃ c, s.clk = c := ⟨_, rfl⟩
  rw [hc] at k0 hclk
  have HC := hid_of hc
  have hwr : IntKind.i64.wrap ((c : Int) + 1) = (c : Int) + 1 := by rw [IntKind.wrap_i64]; first | omega | (unfold wrap64; omega)
  -- behind the two stores
  have C1 : Ch (fun k => k = gp) w (w.setCell ⟨gp, v, none⟩ (.int .i64 (c : Int))) := (Ch.refl (fun k => k = gp) w).setCell (F := fun k => k = gp) (p := ⟨gp, v, none⟩) rfl _
  have k1 := C1.cell k0 (fun t => A.d13 t.symm)
  have kz1 := (C1.frozen (o := 0) (lt_cell k0) (fun t => A.d13 t.symm)).trans kz
  have C2 : Ch (fun k => k = gp ∨ k = bk) w ((w.setCell ⟨gp, v, none⟩ (.int .i64 (c : Int))).setCell ⟨bk, 0, none⟩ (.int .i64 ((c : Int) + 1))) := (C1.mono (G := fun k => k = gp ∨ k = bk) (fun k t => .inl t)).setCell (F := fun k => k = gp ∨ k = bk) (p := ⟨bk, 0, none⟩) (.inr rfl) _
  have k2 := World.cell?_setCell_same (w.setCell ⟨gp, v, none⟩ (.int .i64 (c : Int))) ⟨bk, 0, none⟩ (.int .i64 ((c : Int) + 1)) k1
  have kz2 : ((w.setCell ⟨gp, v, none⟩ (.int .i64 (c : Int))).setCell ⟨bk, 0, none⟩ (.int .i64 ((c : Int) + 1))).frozen? ⟨bk, 0, none⟩ = false := by simpa [go_sem] using kz1
  have P2 : Hid (IntsAt ((w.setCell ⟨gp, v, none⟩ (.int .i64 (c : Int))).setCell ⟨bk, 0, none⟩ (.int .i64 ((c : Int) + 1))) gp n (s.ent v).pre) := by
    have := (H.pre.set v (c : Int)).ch ((Ch.refl (fun k => k = bk) _).setCell (F := fun k => k = bk) (p := ⟨bk, 0, none⟩) rfl (.int .i64 ((c : Int) + 1))) A.d13
    refine World.rowIs.congr this (fun j _ => ?_)
    simp only [Tm.ent, HC.out]
  have b2 := C2.cell hbx (fun t => by rcases t with t | t; exact A.d14 t.symm; exact A.d34 t.symm)
  have bz2 := (C2.frozen (o := 0) (lt_cell hbx) (fun t => by rcases t with t | t; exact A.d14 t.symm; exact A.d34 t.symm)).trans hoz
  have o2 := C2.owns hown (fun kk e t => by
    have h1 := (hown.lt kk e).1
    have := A.l1
    have := A.l3
    rcases t with t | t <;> omega)
  have CW : Hid (Ch (five gp gq bk bo q) W ((w.setCell ⟨gp, v, none⟩ (.int .i64 (c : Int))).setCell ⟨bk, 0, none⟩ (.int .i64 ((c : Int) + 1)))) := H.ch.trans (C2.mono (fun k t => by rcases t with t | t; exact .inl t; exact .inr (.inr (.inl t))))
  have Q2 : Hid (IntsAt ((w.setCell ⟨gp, v, none⟩ (.int .i64 (c : Int))).setCell ⟨bk, 0, none⟩ (.int .i64 ((c : Int) + 1))) gq n (s.ent v).post) := H.post.ch C2 (fun t => by rcases t with t | t; exact A.d12 t.symm; exact A.d23 t)
  have R2 : Hid (∃ sv : Nat → Value, ((w.setCell ⟨gp, v, none⟩ (.int .i64 (c : Int))).setCell ⟨bk, 0, none⟩ (.int .i64 ((c : Int) + 1))).rowIs q 26 n sv ∧ ∀ v, v < n → RemAt W (five gp gq bk bo q) (sv v) (rem v)) := by
    obtain ⟨sv, r, hr⟩ := H.row
    exact ⟨sv, r.of_block (C2.block q r.lt (fun t => by rcases t with t | t; exact A.d15 t.symm; exact A.d35 t.symm)), hr⟩
  have O2H := hid_of o2
  have K2H := hid_of k2
  have Z2H := hid_of kz2
  have BH := hid_of b2
  have BZ := hid_of bz2
  clear H hown C1 C2 hlo hc o2 k2 kz2
  go_enter Try.func30, Try.ntmps30
  go_upto_region 2 with fail
  generalize hw1 : (w.setCell ⟨gp, v, none⟩ (.int .i64 (c : Int))).setCell ⟨bk, 0, none⟩ (.int .i64 ((c : Int) + 1)) = w1 at *
  clear hw1 hbx cv fv p0 k0 kz k1 kz1 hoz
  have hw1s : W.heap.size ≤ w1.heap.size := CW.out.size
  have NW := hid_of (cell_newj w1 3 (.int .i64 (v : Int)))
  have HM := hid_of (World.ownsRow.alloc O2H.out (Obj.cells #[.int .i64 (v : Int)] 3))
  have ST : Hid (∀ w2 g cap3, w2.ownsRow W.heap.size 3 1 (.slice (some ⟨g, 0, none⟩) (lo + 1) cap3) (lo + 1) (jvals (qz st.reverse) ++ [.int .i64 (v : Int)]) → (w1.alloc (Obj.cells #[.int .i64 (v : Int)] 3)).grownBy w2 (Value.slice so lo sc).ownBlock →
      w2.cell? ⟨bo, 0, none⟩ = some (.slice so lo sc) ∧ w2.frozen? ⟨bo, 0, none⟩ = false ∧ VAt W (w2.setCell ⟨bo, 0, none⟩ (.slice (some ⟨g, 0, none⟩) (lo + 1) cap3)) gp gq bk bo q n (s.ent v) (v :: st) rem) := fun w2 g cap3 own grow => by
    have A := hA.out
    have K3 : Kept w1 (w1.alloc (Obj.cells #[.int .i64 (v : Int)] 3)) := (Kept.refl w1).alloc _
    have CG : Ch (fun k => W.heap.size ≤ k) w1 w2 := (Ch.of_kept K3).trans (Ch.of_grown grow (fun kk e => (O2H.out.lt kk e).1))
    have n1 : ¬ W.heap.size ≤ gp := by have := A.l1; omega
    have n2 : ¬ W.heap.size ≤ gq := by have := A.l2; omega
    have n3 : ¬ W.heap.size ≤ bk := by have := A.l3; omega
    have n4 : ¬ W.heap.size ≤ bo := by have := A.l4; omega
    have n5 : ¬ W.heap.size ≤ q := by have := A.l5; omega
    have m1 := CG.cell BH.out n4
    have m2 := (CG.frozen (o := 0) (lt_cell BH.out) n4).trans BZ.out
    have CS : Ch (fun k => k = bo) w2 (w2.setCell ⟨bo, 0, none⟩ (.slice (some ⟨g, 0, none⟩) (lo + 1) cap3)) := (Ch.refl (fun k => k = bo) w2).setCell (F := fun k => k = bo) (p := ⟨bo, 0, none⟩) rfl _
    have hg := (own.lt g rfl).1
    have hl : (v :: st).length = lo + 1 := by rw [List.length_cons, HLO.out]
    have hck : ((s.ent v).clk : Int) = (c : Int) + 1 := by simp [Tm.ent, HC.out]
    obtain ⟨sv, r, hr⟩ := R2.out
    refine ⟨m1, m2, ⟨(CW.out.trans' CG (fun i hi => .inr hi)).trans (CS.mono (G := five gp gq bk bo q) (fun k t => .inr (.inr (.inr (.inl t))))), (P2.out.ch CG n1).ch CS A.d14, (Q2.out.ch CG n2).ch CS A.d24, ?_, ?_, ⟨some ⟨g, 0, none⟩, cap3, ?_, ?_⟩, ?_, ⟨sv, ?_, hr⟩⟩⟩
    · rw [hck]; exact CS.cell (CG.cell K2H.out n3) A.d34
    · exact ((CS.frozen (o := 0) (lt_cell (CG.cell K2H.out n3)) A.d34).trans (CG.frozen (o := 0) (lt_cell K2H.out) n3)).trans Z2H.out
    · rw [hl]; exact World.cell?_setCell_same _ _ _ m1
    · rw [hl, List.reverse_cons, qz_snoc, ← jvals_snoc]
      exact ownsRow_setCell_other own (fun e => by simp only [Value.ownBlock, Option.some.injEq] at e; omega) _
    · simpa [go_sem] using m2
    · have r1 : w2.rowIs q 26 n sv := r.of_block (CG.block q r.lt n5)
      exact r1.of_block (CS.block q r1.lt (fun t => A.d45 t.symm))
  have b2 := BH.out
  have bz2 := BZ.out
  go_wp2_with (at_builtin; refine wpList_append_lies _ (by rfl) (.tmp 11) (.tmp 13) 26 (by rfl) W.heap.size 3 i0 _ 1 8 Try.underlying26 hi hz0 hz1 hz2 rfl (by decide) _ _ _ (by rfl) HM.out ⟨w1.heap.size, 0, none⟩ 1 1 [.int .i64 (v : Int)] (by rfl) rfl NW.out (by intro u hu; simp at hu; subst hu; rfl) (by decide) (by unfold maxLen; omega) (by omega) (by simp; omega) (w1.heap.size + 1) (by simp) ?_; intro g cap3 w2 own grow hat hlt; obtain ⟨m1, m2, m3⟩ := ST.out w2 g cap3 own grow; have M3 := hid_of m3; clear m3 own grow hat hlt HM NW ST P2 Q2 R2 CW O2H)
  go_end0
  exact ⟨rfl, M3.out⟩
end Go.Proofs.Ytjheiaegpoppaaa

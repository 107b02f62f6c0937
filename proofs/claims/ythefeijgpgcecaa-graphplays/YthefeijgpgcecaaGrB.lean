/- AddEdge, with the net's footprint. -/
import Derived.Test.YthefeijgpgcecaaGrA
import Derived.Deep.RegionLaw
import Derived.Deep.AppendLies
namespace Go.Proofs.Ythefeijgpgcecaa
open Go.RowKit

/-- Behind an append onto the edges, and the store into the field. -/
theorem netF_grow {wr w1 : World} {F : Nat → Prop} {p cap : Nat} {ao : Option Addr} {nodes : Int} {es : List Ed} {x : Ed} {o : Obj} {g2 cap2 : Nat} (h : NetF wr F p nodes es)
    (c1 : wr.cell? ⟨p, 1, none⟩ = some (.slice ao es.length cap)) (n2 : (Value.slice ao es.length cap).ownBlock ≠ some p) (f2 : ∀ k, (Value.slice ao es.length cap).ownBlock = some k → F k)
    (own : w1.ownsRow 0 36 4 (.slice (some ⟨g2, 0, none⟩) (es.length + 1) cap2) (es.length + 1) (evals es ++ ecells x)) (grow : (wr.alloc o).grownBy w1 (Value.slice ao es.length cap).ownBlock)
    (ha : (Value.slice ao es.length cap).ownBlock = some g2 ∨ g2 = wr.heap.size + 1) :
    w1.cell? ⟨p, 1, none⟩ = some (.slice ao es.length cap) ∧ w1.frozen? ⟨p, 1, none⟩ = false ∧
    NetF (w1.setCell ⟨p, 1, none⟩ (.slice (some ⟨g2, 0, none⟩) (es.length + 1) cap2)) (fun k => F k ∨ k = g2) p nodes (es ++ [x]) ∧ Ch F wr (w1.setCell ⟨p, 1, none⟩ (.slice (some ⟨g2, 0, none⟩) (es.length + 1) cap2)) ∧ (F g2 ∨ wr.heap.size ≤ g2) := by
  have KA : Kept wr (wr.alloc o) := (Kept.refl wr).alloc o
  have hA := h.kept KA
  have lp := h.lt p h.own
  have lpA := hA.lt p h.own
  have b0 := grow.cell hA.c0 (fun e => n2 e.symm)
  have b1 := grow.cell (KA.cell c1) (fun e => n2 e.symm)
  have y0 : w1.frozen? ⟨p, 0, none⟩ = false := (World.frozen?_of_block (a := ⟨p, 0, none⟩) (grow.block p lpA (fun e => n2 e.symm))).trans hA.z0
  have y1 : w1.frozen? ⟨p, 1, none⟩ = false := (World.frozen?_of_block (a := ⟨p, 1, none⟩) (grow.block p lpA (fun e => n2 e.symm))).trans hA.z1
  have np : g2 ≠ p := by
    rcases ha with t | t
    · intro e; exact n2 (by rw [t, e])
    · omega
  rw [← evals_snoc] at own
  have own2 := ownsRow_setCell_other own (a := ⟨p, 1, none⟩) (fun e => np (by simpa [Value.ownBlock] using e)) (.slice (some ⟨g2, 0, none⟩) (es.length + 1) cap2)
  have e1 := World.cell?_setCell_same w1 ⟨p, 1, none⟩ (.slice (some ⟨g2, 0, none⟩) (es.length + 1) cap2) b1
  have C1 : Ch F wr w1 := (Ch.of_kept KA).trans (.of_grown grow f2)
  have C2 := C1.setCell (p := ⟨p, 1, none⟩) h.own (.slice (some ⟨g2, 0, none⟩) (es.length + 1) cap2)
  have lg2 : g2 < w1.heap.size := (own.lt g2 rfl).2
  have hl : (es ++ [x]).length = es.length + 1 := by simp
  refine ⟨b1, y1, ⟨?_, ⟨some ⟨g2, 0, none⟩, cap2, ?_, ?_, ?_, ?_⟩, ?_, ?_, .inl h.own, ?_, fun q => ?_⟩, C2, ?_⟩
  · rw [World.cell?_setCell_other _ _ _ _ (by simp)]; exact b0
  · rw [hl]; exact e1
  · rw [hl]; exact own2
  · rw [hl]; intro e; exact np (by simpa [Value.ownBlock] using e)
  · rw [hl]; intro k e; simp only [Value.ownBlock, Option.some.injEq] at e; exact .inr e.symm
  · simpa [go_sem] using y0
  · simpa [go_sem] using y1
  · intro k hk
    rcases hk with hk | rfl
    · exact Nat.lt_of_lt_of_le (h.lt k hk) C2.size
    · simpa [World.setCell] using lg2
  · simpa [go_sem] using (World.frozen?_of_block (a := ⟨p, q, none⟩) (grow.block p lpA (fun e => n2 e.symm))).trans (hA.zz q)
  · rcases ha with t | t
    · exact .inl (f2 _ t)
    · exact .inr (by omega)

set_option maxRecDepth 100000 in
set_option maxHeartbeats 2000000 in
theorem addF_calls (w : World) (F : Nat → Prop) (p : Nat) (nodes : Int) (es : List Ed) (e : Ed) (h : NetF w F p nodes es) (es' : List Ed) (r c : Int) (ha : Hid (addOf nodes es e = (es', r, c))) :
    Calls Try.prog 15 #[.pointer (some ⟨p, 0, none⟩), e.val] w fun v w' => v = .returned (.tuple #[.int .i64 r, .int .i64 c]) ∧ ∃ F', NetF w' F' p nodes es' ∧ Ch F w w' ∧ ∀ k, F' k → F k ∨ w.heap.size ≤ k := by
  obtain ⟨ef, et, ec, ek⟩ := e
  have hs := ha.out
  unfold addOf at hs
  have KE0 : Kept w (w.alloc (Obj.cells #[.int .i64 ef, .int .i64 et, .int .i64 ec, .int .i64 ek] 36)) := (Kept.refl w).alloc _
  have H1 := h.kept KE0
  obtain ⟨ao, cap, m1, m2, m3, m4⟩ := H1.c1
  have m0 := H1.c0
  by_cases hb : 4096 ≤ es.length
  · rw [if_pos hb] at hs
    simp only [Prod.mk.injEq] at hs
    obtain ⟨rfl, rfl, rfl⟩ := hs
    have hb' : (4096 : Int) ≤ (es.length : Int) := by omega
    have H1H := hid_of H1
    clear ha m2 m3 m4 h H1
    go_enter Try.func15, Try.ntmps15
    go_wp2_with fail
    go_ret2
    exact ⟨rfl, F, H1H.out, Ch.of_kept KE0, fun k t => .inl t⟩
  rw [if_neg hb] at hs
  have hb' : ¬ (4096 : Int) ≤ (es.length : Int) := by omega
  have C := hid_of (fun w => wrong_calls nodes ⟨ef, et, ec, ek⟩ w)
  have y0 : (w.alloc (Obj.cells #[.int .i64 ef, .int .i64 et, .int .i64 ec, .int .i64 ek] 36)).cell? ⟨w.heap.size, 0, none⟩ = some (.int .i64 ef) := by simp [go_sem]
  have y1 : (w.alloc (Obj.cells #[.int .i64 ef, .int .i64 et, .int .i64 ec, .int .i64 ek] 36)).cell? ⟨w.heap.size, 1, none⟩ = some (.int .i64 et) := by simp [go_sem]
  have y2 : (w.alloc (Obj.cells #[.int .i64 ef, .int .i64 et, .int .i64 ec, .int .i64 ek] 36)).cell? ⟨w.heap.size, 2, none⟩ = some (.int .i64 ec) := by simp [go_sem]
  have y3 : (w.alloc (Obj.cells #[.int .i64 ef, .int .i64 et, .int .i64 ec, .int .i64 ek] 36)).cell? ⟨w.heap.size, 3, none⟩ = some (.int .i64 ek) := by simp [go_sem]
  have HS := hid_of hs
  have H1H := hid_of H1
  clear ha hs h H1 m2 m3 m4
  go_enter Try.func15, Try.ntmps15
  go_wp2_with fail
  have KEH := hid_of KE0
  generalize hW1 : w.alloc (Obj.cells #[.int .i64 ef, .int .i64 et, .int .i64 ec, .int .i64 ek] 36) = W1 at H1H m0 m1 y0 y1 y2 y3 KEH ⊢
  clear hW1 KE0
  refine Ord.region [(0, 1), (1, 0), (2, 0), (3, 0), (4, 0), (5, 1), (6, 2), (7, 0)] (fun w' => Kept W1 w') (by kernel_rfl) (by kernel_rfl) (by kernel_rfl) (by kernel_rfl) (fun _ _ d _ _ h => by cases d <;> exact h) ((Kept.refl _).drewN _) ?_
  repeat
    refine Ord.step rfl (fun Ko hK => ?_)
    simp only [Ord.body]
    go_simp
    first
      | (refine hK _ _ ?_; clear hK Ko)
      | (refine ⟨_, fun w' hS => (by have c0 := hS.cell y0; have c1 := hS.cell y1; have c2 := hS.cell y2; have c3 := hS.cell y3; simp only [c0, c1, c2, c3, Result.andThen]; rfl), hK _ _ ?_⟩; clear hK Ko)
      | (refine ⟨_, fun w' hS => (by have c0 := hS.cell m0; simp only [c0, Result.andThen]; rfl), hK _ _ ?_⟩; clear hK Ko)
      | (go_at_call 30; refine (C.out _).mono ?_; rintro e wf ⟨rfl, K6⟩; refine ⟨((Kept.refl _).drewN _).trans K6, hK _ _ ?_⟩; clear hK Ko)
  refine Ord.done ?_
  have KN := ((Kept.refl W1).drewN _).trans K6
  have H2 := H1H.out.kept KN
  have KNH := hid_of (KEH.out.trans KN)
  clear K6 m1
  by_cases hbd : badOf nodes ⟨ef, et, ec, ek⟩ = 0
  · have q : (badOf nodes ⟨ef, et, ec, ek⟩ != 0) = false := by simp [hbd]
    obtain ⟨ao2, cap2, k1, k2, k3, k4⟩ := H2.c1
    have k0 := H2.c0
    have k5 := H2.z1
    have v0 := KN.cell y0
    have v1 := KN.cell y1
    have v2 := KN.cell y2
    have v3 := KN.cell y3
    have lpf : p < wf.heap.size := World.block_lt_of_cell? _ _ k1
    have lwf : w.heap.size < wf.heap.size := World.block_lt_of_cell? _ _ v0
    obtain ⟨i0, hi, hz0, hz1, hz2⟩ := infoE
    have NW := hid_of (cell_new4 wf.drew 36 ⟨ef, et, ec, ek⟩)
    have HM := hid_of (World.ownsRow.alloc k2.drew (Obj.cells #[.int .i64 ef, .int .i64 et, .int .i64 ec, .int .i64 ek] 36))
    have B1 : Hid (es.length + 1 ≤ maxLen) := by show es.length + 1 ≤ maxLen; unfold maxLen; omega
    have B2 : Hid ((es.length + 1) * 32 ≤ 140737488355328) := by show (es.length + 1) * 32 ≤ 140737488355328; omega
    have H2D := hid_of (H2.kept (Kept.refl wf).drew)
    have K3 := hid_of k3
    have K4 := hid_of k4
    clear y0 y1 y2 y3 m0 H1H KN H2 k2 k3 k4 C KEH
    go_wp2_with fail
    go_region_law ((refine step_append_lies _ (by rfl) (.tmp 29) (.tmp 31) 22 (by rfl) 0 36 i0 _ 4 32 Try.underlying22 hi hz0 hz1 hz2 rfl (by decide) _ _ _ (by rfl) HM.out ⟨wf.heap.size, 0, none⟩ 1 1 (ecells ⟨ef, et, ec, ek⟩) (by rfl) rfl NW.out (ecells_one _) (by decide) B1.out B2.out (Nat.zero_le _) (wf.heap.size + 1) (by simp) ?_; intro g cap3 w1 own grow hat hlt; obtain ⟨q1, q2, q3, q4, q5⟩ := netF_grow (wr := wf.drew) (o := Obj.cells #[.int .i64 ef, .int .i64 et, .int .i64 ec, .int .i64 ek] 36) (x := ⟨ef, et, ec, ek⟩) H2D.out k1 K3.out K4.out own grow hat; have q6 := World.cell?_setCell_same w1 ⟨p, 1, none⟩ (.slice (some ⟨g, 0, none⟩) (es.length + 1) cap3) q1))
    all_goals
      have hs := HS.out
      rw [if_neg (by simpa using hbd)] at hs
      simp only [Prod.mk.injEq] at hs
      obtain ⟨rfl, rfl, rfl⟩ := hs
      have FIN : Hid (∃ F', NetF (w1.setCell ⟨p, 1, none⟩ (.slice (some ⟨g, 0, none⟩) (es.length + 1) cap3)) F' p nodes (es ++ [⟨ef, et, ec, ek⟩]) ∧ Ch F w (w1.setCell ⟨p, 1, none⟩ (.slice (some ⟨g, 0, none⟩) (es.length + 1) cap3)) ∧ ∀ k, F' k → F k ∨ w.heap.size ≤ k) :=
        ⟨_, q3, (Ch.of_kept (KNH.out.drew)).trans q4, fun k t => by
          rcases t with t | rfl
          · exact .inl t
          · rcases q5 with t | t
            · exact .inl t
            · exact .inr (Nat.le_trans (Nat.le_of_lt lwf) t)⟩
      clear HS q3 q4 q5 own grow hat q1 q2 HM NW H2D K3 K4
    all_goals go_wp2_with fail
    all_goals go_ret2
    all_goals exact ⟨by congr 3, FIN.out⟩
  · have q : (badOf nodes ⟨ef, et, ec, ek⟩ != 0) = true := by simp [hbd]
    have hs := HS.out
    rw [if_pos hbd] at hs
    simp only [Prod.mk.injEq] at hs
    obtain ⟨rfl, rfl, rfl⟩ := hs
    have H2H := hid_of H2
    clear HS H2 KN
    go_wp2_with fail
    go_ret2
    exact ⟨rfl, F, H2H.out, Ch.of_kept KNH.out, fun k t => .inl t⟩
end Go.Proofs.Ythefeijgpgcecaa

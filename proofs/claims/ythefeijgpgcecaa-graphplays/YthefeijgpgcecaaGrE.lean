/- CutEdge. -/
import Derived.Test.YthefeijgpgcecaaGrD
namespace Go.Proofs.Ythefeijgpgcecaa
open Go.RowKit

/-- What CutEdge makes of the edges, and its answer. -/
def cutOf (es : List Ed) (i : Int) : List Ed × Int := if ¬ (0 ≤ i ∧ i < (es.length : Int)) then (es, 32) else (es.eraseIdx i.toNat, 0)

set_option maxRecDepth 100000 in
set_option maxHeartbeats 2000000 in
theorem cut_calls (w : World) (F : Nat → Prop) (p : Nat) (nodes : Int) (es : List Ed) (h : NetF w F p nodes es) (hn : es.length ≤ 4096) (i : Int) (es' : List Ed) (c : Int) (hs : Hid (cutOf es i = (es', c))) :
    Calls Try.prog 17 #[.pointer (some ⟨p, 0, none⟩), .int .i64 i] w fun v w' => v = .returned (.int .i64 c) ∧ NetF w' F p nodes es' ∧ Ch F w w' := by
  have C := hid_of (has_calls _ 0 p nodes es h.at i)
  have hss := hs.out
  unfold cutOf at hss
  by_cases hi : 0 ≤ i ∧ i < (es.length : Int)
  · rw [if_neg (by simp [hi])] at hss
    simp only [Prod.mk.injEq] at hss
    obtain ⟨rfl, rfl⟩ := hss
    have hb : (decide (0 ≤ i) && decide (i < (es.length : Int))) = true := by simp [hi]
    rw [hb] at C
    obtain ⟨i', rfl⟩ : ∃ i' : Nat, i = (i' : Int) := ⟨i.toNat, by omega⟩
    have hi2 : i' < es.length := by omega
    obtain ⟨ao, cap, k1, o, n1, f⟩ := h.c1
    obtain ⟨g, cp, eg, -, -⟩ := o.form (by omega)
    simp only [Value.slice.injEq, true_and] at eg
    obtain ⟨rfl, rfl⟩ := eg
    obtain ⟨N, hN⟩ : ∃ N, es.length = N := ⟨_, rfl⟩
    rw [hN] at k1 o n1 f hi2 hn
    have D := hid_of (del_calls w g N cap i' es o (hid_of hN) hi2 hn)
    have npg : ¬ p = g := fun t => n1 (by rw [t]; rfl)
    have HH := hid_of h
    have HN := hid_of hN
    have FG := hid_of (f g rfl)
    have z1 := h.z1
    have ls : Hid ((es.eraseIdx i').length = N - 1) := by show (es.eraseIdx i').length = N - 1; rw [List.length_eraseIdx, if_pos (by omega)]; omega
    have hwr : IntKind.i64.wrap ((i' : Int) + 1) = (i' : Int) + 1 := by rw [IntKind.wrap_i64]; first | omega | (unfold wrap64; omega)
    simp only [Int.toNat_natCast]
    clear hs h hi hb o f hN n1
    go_enter Try.func17, Try.ntmps17
    go_wp2_with (first | (go_at_call 31; refine C.out.mono ?_; rintro v w' ⟨rfl, rfl⟩) | (go_at_call 32; refine D.out.mono ?_; rintro v w2 ⟨rfl, O2, C2⟩; have O2H := hid_of O2; have C2H := hid_of C2; have m1 := C2.cell k1 npg; have m2 := (C2.frozen (World.block_lt_of_cell? _ _ k1) npg).trans z1; clear O2 C2))
    have C3 : Ch F w (w2.setCell ⟨p, 1, none⟩ (.slice (some ⟨g, 0, none⟩) (N - 1) cap)) := (C2H.out.mono (G := F) (fun k t => by rw [t]; exact FG.out)).setCell (p := ⟨p, 1, none⟩) HH.out.own _
    have N3 : NetF (w2.setCell ⟨p, 1, none⟩ (.slice (some ⟨g, 0, none⟩) (N - 1) cap)) F p nodes (es.eraseIdx i') := by
      refine ⟨?_, ⟨some ⟨g, 0, none⟩, cap, ?_, ?_, ?_, ?_⟩, ?_, ?_, HH.out.own, fun k t => Nat.lt_of_lt_of_le (HH.out.lt k t) C3.size, fun q => ?_⟩
      · rw [World.cell?_setCell_other _ _ _ _ (by simp)]; exact C2H.out.cell HH.out.c0 npg
      · rw [ls.out]; exact World.cell?_setCell_same _ _ _ m1
      · rw [ls.out]; exact ownsRow_setCell_other O2H.out (fun e => npg (by simpa [Value.ownBlock] using e.symm)) _
      · rw [ls.out]; intro e; exact npg (by simpa [Value.ownBlock] using e.symm)
      · rw [ls.out]; intro k e; simp only [Value.ownBlock, Option.some.injEq] at e; subst e; exact FG.out
      · simpa [go_sem] using (C2H.out.frozen (World.block_lt_of_cell? _ _ HH.out.c0) npg).trans HH.out.z0
      · simpa [go_sem] using m2
      · simpa [go_sem] using (C2H.out.frozen (o := q) (World.block_lt_of_cell? _ _ HH.out.c0) npg).trans (HH.out.zz q)
    go_ret
    exact ⟨rfl, N3, C3⟩
  · rw [if_pos (by simpa using hi)] at hss
    simp only [Prod.mk.injEq] at hss
    obtain ⟨rfl, rfl⟩ := hss
    have hb : (decide (0 ≤ i) && decide (i < (es.length : Int))) = false := by
      simp only [Bool.and_eq_false_iff, decide_eq_false_iff_not]; omega
    rw [hb] at C
    have HH := hid_of h
    clear h hs hi hb
    go_enter Try.func17, Try.ntmps17
    go_wp2_with (go_at_call 31; refine C.out.mono ?_; rintro v w' ⟨rfl, rfl⟩)
    go_ret
    exact ⟨rfl, HH.out, Ch.refl _ _⟩
end Go.Proofs.Ythefeijgpgcecaa

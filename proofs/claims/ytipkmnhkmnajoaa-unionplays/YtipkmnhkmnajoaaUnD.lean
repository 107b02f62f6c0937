/- unhang, Undo. -/
import Derived.Test.YtipkmnhkmnajoaaUnC
import Derived.WalkSmall
import Derived.OneCell
namespace Go.Proofs.Ytipkmnhkmnajoaa
open Go.RowKit
open Un

namespace Un
def setTree (T : Nat → Tr) (i : Nat) (x : Tr) : Nat → Tr := fun u => if u = i then x else T u
theorem tvals_tree (T : Nat → Tr) (n i : Nat) (x : Tr) (hi : i < n) : (((tvals T n).set (i * 3) (.int .i64 (x.up : Int))).set (i * 3 + 1) (.int .i64 (x.size : Int))).set (i * 3 + 2) (.int .i64 (x.least : Int)) = tvals (setTree T i x) n := by
  rw [tvals_up T n i x.up hi, tvals_size _ n i x.size hi, tvals_least _ n i x.least hi]
  congr 1
  funext u
  unfold setLeast setSize setUp setTree
  by_cases e : u = i
  · simp [e]
  · simp [e]

theorem set_all (T : Nat → Tr) (i : Nat) (x : Tr) : setLeast (setSize (setUp T i x.up) i x.size) i x.least = setTree T i x := by
  funext u
  unfold setLeast setSize setUp setTree
  by_cases e : u = i
  · simp [e]
  · simp [e]

theorem jget (j : Jn) (js : List Jn) (k : Nat) (hk : k < 5) : (jvals (j :: js))[js.length * 5 + k]? = (jcells j)[k]? := by
  unfold jvals
  rw [List.getElem?_append_right (by rw [jvals_len]; omega), jvals_len, Nat.add_sub_cancel_left]

theorem unhung {n : Nat} {j : Jn} {js : List Jn} (g : Good n (j :: js)) : setTree (setUp (tr (j :: js)) j.below j.below) j.root j.before = tr js := by
  obtain ⟨g1, hb, hr, hne, rb, rr, ht⟩ := g
  funext u
  have e : tr (j :: js) u = if u = j.root then ⟨(tr js u).up, (tr js u).size + (tr js j.below).size, min (tr js u).least (tr js j.below).least⟩ else if u = j.below then ⟨j.root, (tr js u).size, (tr js u).least⟩ else tr js u := rfl
  unfold setTree setUp
  rw [e]
  by_cases c1 : u = j.root
  · rw [if_pos c1, ht, c1]
  · rw [if_neg c1]
    by_cases c2 : u = j.below
    · have := ((up_facts g1 hb).2.2.1).2 rb
      subst c2
      rw [if_pos rfl, if_neg c1, if_pos rfl]
      simp only
      generalize tr js j.below = t at this
      obtain ⟨a, b, c⟩ := t
      simp only at this
      rw [this]
    · rw [if_neg c2, if_neg c1, if_neg c2]
end Un

set_option maxRecDepth 100000 in
set_option maxHeartbeats 2000000 in
theorem unhang_calls (w : World) (F : Nat → Prop) (p g n : Nat) (j : Jn) (js : List Jn) (h : SetsAt w F p g n (j :: js)) :
    Calls Try.prog 63 #[.pointer (some ⟨p, 0, none⟩), .agg #[.int .i64 (j.below : Int), .int .i64 (j.root : Int), .int .i64 (j.before.up : Int), .int .i64 (j.before.size : Int), .int .i64 (j.before.least : Int)]] w fun e w' => e = .returned (.tuple #[]) ∧
      SetsT w' F p g n (tr js) (j :: js) ∧ Ch F w w' := by
  have H0 := h.base
  have owng := H0.owng
  have few := h.base.few
  obtain ⟨_, hb, hr, hne, -⟩ := h.good
  have HU := hid_of (unhung h.good)
  have KA := (Kept.refl w).alloc (Obj.cells #[.int .i64 (j.below : Int), .int .i64 (j.root : Int), .int .i64 (j.before.up : Int), .int .i64 (j.before.size : Int), .int .i64 (j.before.least : Int)] 120)
  have HA := hid_of (H0.kept KA)
  have KH := hid_of KA
  generalize hT : tr (j :: js) = T at HU HA
  have y : ∀ k : Nat, ∀ v, (#[.int .i64 (j.below : Int), .int .i64 (j.root : Int), .int .i64 (j.before.up : Int), .int .i64 (j.before.size : Int), .int .i64 (j.before.least : Int)] : Array Value)[k]? = some v → (w.alloc (Obj.cells #[.int .i64 (j.below : Int), .int .i64 (j.root : Int), .int .i64 (j.before.up : Int), .int .i64 (j.before.size : Int), .int .i64 (j.before.least : Int)] 120)).cell? ⟨w.heap.size, k, none⟩ = some v := by
    intro k v hv
    simpa [go_sem] using hv
  have y0 := y 0 _ rfl
  have y1 := y 1 _ rfl
  have y2 := y 2 _ rfl
  have y3 := y 3 _ rfl
  have y4 := y 4 _ rfl
  have ln : g ≠ w.heap.size := by have := H0.lt g H0.owng; omega
  clear y h H0 hT KA
  go_enter Try.func63, Try.ntmps63
  go_wp2_with fail
  generalize w.alloc (Obj.cells #[.int .i64 (j.below : Int), .int .i64 (j.root : Int), .int .i64 (j.before.up : Int), .int .i64 (j.before.size : Int), .int .i64 (j.before.least : Int)] 120) = W1 at HA KH y0 y1 y2 y3 y4 ⊢
  obtain ⟨b0, b1, b2⟩ := HA.out.cells j.below hb
  have c0 := HA.out.c0
  have fz := HA.out.o0.frozenAt (j.below * 3)
  refine Ord.regionZ 10 [(0, 0), (1, 0), (2, 0), (3, 1), (4, 0), (5, 1), (6, 0), (7, 1), (8, 2), (9, 0), (10, 3)] (fun w' => Kept W1 w') (by kernel_rfl) (by kernel_rfl) (by kernel_rfl) (by kernel_rfl) (fun _ _ d _ _ h => by cases d <;> exact h) ((Kept.refl _).drewN _) ?_
  repeat
    refine Ord.stepZ rfl (fun Ko hK => ?_)
    simp only [Ord.bodyZ, Ord.body]
    go_simp
    first
      | (refine hK _ _ ?_; clear hK Ko)
      | (refine ⟨(Kept.refl _).drewN _, hK _ _ ?_⟩; clear hK Ko)
      | (refine ⟨_, fun w' hS => (by have c0 := hS.cell c0; simp only [c0, Result.andThen]; rfl), hK _ _ ?_⟩; clear hK Ko)
      | (refine ⟨_, fun w' hS => (by have c0 := hS.cell y0; simp only [c0, Result.andThen]; rfl), hK _ _ ?_⟩; clear hK Ko)
  refine Ord.doneZ ?_
  obtain ⟨S2, -⟩ := (HA.out.kept ((Kept.refl W1).drewN 1)).put (j.below * 3) (.int .i64 (j.below : Int)) (tvals_up T n j.below j.below hb)
  have G2 : Ch (fun k => k = g) W1 ((W1.drewN 1).setCell ⟨g, j.below * 3, none⟩ (.int .i64 (j.below : Int))) := ((Ch.refl (fun k => k = g) W1).drewN 1).setCell (F := fun k => k = g) (p := ⟨g, j.below * 3, none⟩) rfl _
  have z1 := G2.cell y1 (Ne.symm ln)
  have z2 := G2.cell y2 (Ne.symm ln)
  have z3 := G2.cell y3 (Ne.symm ln)
  have z4 := G2.cell y4 (Ne.symm ln)
  have C2 : Ch F w ((W1.drewN 1).setCell ⟨g, j.below * 3, none⟩ (.int .i64 (j.below : Int))) := (Ch.of_kept KH.out).trans (G2.mono (fun k e => by rw [e]; exact owng))
  clear HA KH y0 y1 y2 y3 y4 b0 b1 b2 c0 fz G2
  go_wp2_with fail
  generalize (W1.drewN 1).setCell ⟨g, j.below * 3, none⟩ (.int .i64 (j.below : Int)) = W2 at S2 C2 z1 z2 z3 z4 ⊢
  have SH := hid_of S2
  have CH := hid_of C2
  clear S2 C2
  obtain ⟨b0, b1, b2⟩ := SH.out.cells j.root hr
  have c0 := SH.out.c0
  have f0 := SH.out.o0.frozenAt (j.root * 3)
  have f1 := SH.out.o0.frozenAt (j.root * 3 + 1)
  have f2 := SH.out.o0.frozenAt (j.root * 3 + 2)
  refine Ord.regionZ 9 [(0, 0), (1, 0), (2, 0), (3, 1), (4, 0), (5, 1), (6, 0), (7, 1), (8, 0), (9, 3)] (fun w' => Kept W2 w') (by kernel_rfl) (by kernel_rfl) (by kernel_rfl) (by kernel_rfl) (fun _ _ d _ _ h => by cases d <;> exact h) ((Kept.refl _).drewN _) ?_
  repeat
    refine Ord.stepZ rfl (fun Ko hK => ?_)
    simp only [Ord.bodyZ, Ord.body]
    go_simp
    first
      | (refine hK _ _ ?_; clear hK Ko)
      | (refine ⟨(Kept.refl _).drewN _, hK _ _ ?_⟩; clear hK Ko)
      | (refine ⟨_, fun w' hS => (by have c0 := hS.cell c0; simp only [c0, Result.andThen]; rfl), hK _ _ ?_⟩; clear hK Ko)
      | (refine ⟨_, fun w' hS => (by have c0 := hS.cell z1; simp only [c0, Result.andThen]; rfl), hK _ _ ?_⟩; clear hK Ko)
      | (refine ⟨_, fun w' hS => (by have c0 := hS.cell z2; have c1 := hS.cell z3; have c2 := hS.cell z4; simp only [c0, c1, c2, Result.andThen]; rfl), hK _ _ ?_⟩; clear hK Ko)
  refine Ord.doneZ ?_
  obtain ⟨S3, -⟩ := (SH.out.kept ((Kept.refl W2).drewN 1)).put (j.root * 3) (.int .i64 (j.before.up : Int)) (tvals_up _ n j.root j.before.up hr)
  obtain ⟨S4, -⟩ := S3.put (j.root * 3 + 1) (.int .i64 (j.before.size : Int)) (tvals_size _ n j.root j.before.size hr)
  obtain ⟨S5, -⟩ := S4.put (j.root * 3 + 2) (.int .i64 (j.before.least : Int)) (tvals_least _ n j.root j.before.least hr)
  rw [set_all, HU.out] at S5
  have C5 := (((CH.out.drewN 1).setCell (p := ⟨g, j.root * 3, none⟩) owng (.int .i64 (j.before.up : Int))).setCell (p := ⟨g, j.root * 3 + 1, none⟩) owng (.int .i64 (j.before.size : Int))).setCell (p := ⟨g, j.root * 3 + 2, none⟩) owng (.int .i64 (j.before.least : Int))
  go_end0
  exact ⟨rfl, S5, C5⟩

/-- The last of the joins is gone. -/
theorem SetsT.pop {w : World} {F : Nat → Prop} {p g n : Nat} {T : Nat → Tr} {j : Jn} {js : List Jn} (h : SetsT w F p g n T (j :: js)) {g2 cap : Nat} (c1 : w.cell? ⟨p, 1, none⟩ = some (.slice (some ⟨g2, 0, none⟩) (js.length + 1) cap)) :
    SetsT (w.setCell ⟨p, 1, none⟩ (.slice (some ⟨g2, 0, none⟩) js.length cap)) F p g n T js ∧ Ch F w (w.setCell ⟨p, 1, none⟩ (.slice (some ⟨g2, 0, none⟩) js.length cap)) := by
  obtain ⟨ao, cap', c1', o1, n2, n3, f2⟩ := h.ex
  have e := c1.symm.trans c1'
  simp only [Option.some.injEq, Value.slice.injEq, List.length_cons, true_and] at e
  obtain ⟨rfl, rfl⟩ := e
  have o2 := ownsRow_pop (xs := jvals js) (last := jcells j) (n := js.length) (by rw [jvals_len]) (by simpa [jvals] using o1)
  have hp : (Value.slice (some ⟨g2, 0, none⟩) js.length cap).ownBlock ≠ some p := n2
  refine ⟨⟨?_, ?_, ⟨some ⟨g2, 0, none⟩, cap, World.cell?_setCell_same w ⟨p, 1, none⟩ _ c1, ownsRow_setCell_other o2 hp _, n2, n3, f2⟩, h.ne, h.own, h.owng, ?_, ?_, fun k hk => Nat.lt_of_lt_of_le (h.lt k hk) (by simp [World.setCell]), h.few⟩, (Ch.refl F w).setCell (p := ⟨p, 1, none⟩) h.own _⟩
  · rw [World.cell?_setCell_other _ _ _ _ (by simp)]; exact h.c0
  · exact ownsRow_setCell_other h.o0 (fun e => h.ne (by simpa [Value.ownBlock] using e.symm)) _
  · simpa [go_sem] using h.z0
  · simpa [go_sem] using h.z1

/-- The row of joins, where there is one. -/
theorem SetsT.row {w : World} {F : Nat → Prop} {p g n : Nat} {T : Nat → Tr} {j : Jn} {js : List Jn} (h : SetsT w F p g n T (j :: js)) :
    ∃ g2 cap, w.cell? ⟨p, 1, none⟩ = some (.slice (some ⟨g2, 0, none⟩) (js.length + 1) cap) ∧ js.length + 1 ≤ cap ∧ cap ≤ 9223372036854775807 ∧
      w.cell? ⟨g2, js.length * 5, none⟩ = some (.int .i64 (j.below : Int)) ∧ w.cell? ⟨g2, js.length * 5 + 1, none⟩ = some (.int .i64 (j.root : Int)) ∧ w.cell? ⟨g2, js.length * 5 + 2, none⟩ = some (.int .i64 (j.before.up : Int)) ∧
      w.cell? ⟨g2, js.length * 5 + 3, none⟩ = some (.int .i64 (j.before.size : Int)) ∧ w.cell? ⟨g2, js.length * 5 + 4, none⟩ = some (.int .i64 (j.before.least : Int)) := by
  obtain ⟨ao, cap, c1, o1, n2, n3, f2⟩ := h.ex
  rcases o1.2 with ⟨t, t2⟩ | ⟨g', cap', cur, t, _, _, a, b, _⟩
  · simp at t2
  · simp only [Value.slice.injEq, true_and] at t
    obtain ⟨rfl, rfl⟩ := t
    have cl : ∀ k v, (jcells j)[k]? = some v → k < 5 → w.cell? ⟨g', js.length * 5 + k, none⟩ = some v := fun k v hv hk => by
      rw [o1.cellAt _ (by simp only [List.length_cons]; omega), jget j js k hk, hv]
    unfold maxLen at b
    exact ⟨g', cap, c1, a, by omega, cl 0 _ rfl (by omega), cl 1 _ rfl (by omega), cl 2 _ rfl (by omega), cl 3 _ rfl (by omega), cl 4 _ rfl (by omega)⟩

theorem undo0_calls (w : World) (F : Nat → Prop) (p g n : Nat) (h : SetsAt w F p g n []) :
    Calls Try.prog 36 #[.pointer (some ⟨p, 0, none⟩)] w fun e w' => e = .returned (.int .i64 4) ∧ w = w' := by
  obtain ⟨ao, cap, c1, -⟩ := h.base.ex
  go_enter Try.func36, Try.ntmps36
  go_wp2
  go_ret
  exact ⟨rfl, rfl⟩

set_option maxRecDepth 100000 in
set_option maxHeartbeats 2000000 in
theorem undo_calls (w : World) (F : Nat → Prop) (p g n : Nat) (j : Jn) (js : List Jn) (h : SetsAt w F p g n (j :: js)) :
    Calls Try.prog 36 #[.pointer (some ⟨p, 0, none⟩)] w fun e w' => e = .returned (.int .i64 0) ∧ SetsAt w' F p g n js ∧ Ch F w w' := by
  obtain ⟨g2, cap, c1, rm, mx, y0, y1, y2, y3, y4⟩ := h.base.row
  have hl := len_lt h.good
  have few := h.base.few
  simp only [List.length_cons] at hl
  have HG := hid_of h.good.1
  have C := hid_of (unhang_calls w F p g n j js h)
  have q : (((js.length + 1 : Nat) : Int) == 0) = false := by simp; omega
  clear h
  go_enter Try.func36, Try.ntmps36
  go_wp2_with (go_at_call 63; refine C.out.mono ?_; rintro e w' ⟨rfl, S1, K1⟩; have SH := hid_of S1; have KH := hid_of K1; obtain ⟨g3, cap3, c3, rm3, mx3, -⟩ := S1.row; have z1 := S1.z1; clear S1 K1 c1 y0 y1 y2 y3 y4 rm mx C)
  obtain ⟨S2, C2⟩ := SH.out.pop c3
  have S2H := hid_of S2
  have C2H := hid_of (KH.out.trans C2)
  go_ret
  exact ⟨rfl, ⟨S2H.out, HG.out⟩, C2H.out⟩
end Go.Proofs.Ytipkmnhkmnajoaa

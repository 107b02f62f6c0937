/- costOf, surplus. -/
import Derived.Test.YtomopfjaebcpeaaPrD
namespace Go.Proofs.Ytomopfjaebcpeaa
open Go.RowKit

theorem mul_bd {x y X Y : Int} (hX : 0 ≤ X) (h1 : -X ≤ x) (h2 : x ≤ X) (h3 : 0 ≤ y) (h4 : y ≤ Y) : -(X * Y) ≤ x * y ∧ x * y ≤ X * Y := by
  have a : x * y ≤ X * y := Int.mul_le_mul_of_nonneg_right h2 h3
  have b : X * y ≤ X * Y := Int.mul_le_mul_of_nonneg_left h4 hX
  have c : -X * y ≤ x * y := Int.mul_le_mul_of_nonneg_right h1 h3
  have d : -X * y = -(X * y) := Int.neg_mul _ _
  omega

theorem cost_succ (es : List Ed) (on : Nat → Int) (k : Nat) : costTo es on (k + 1) = costTo es on k + (edAt es k).k * on k := rfl

theorem cost_bd {N n : Nat} {es : List Ed} (R : Right N n es) (on : Nat → Int) (ho : ∀ i, i < n → 0 ≤ on i ∧ on i ≤ 1048576) (k : Nat) (hk : k ≤ n) : -4503599627370496 ≤ costTo es on k ∧ costTo es on k ≤ 4503599627370496 := by
  have h2 := sm_bd (f := fun i => (edAt es i).k * on i) (k := k) (B := 1099511627776) fun i hi => by
    have h := R.costs i (by omega)
    have g := ho i (by omega)
    exact mul_bd (X := 1048576) (Y := 1048576) (by omega) h.1 h.2 g.1 g.2
  have := R.edges
  unfold costTo
  omega

set_option maxRecDepth 100000 in
set_option linter.unusedSimpArgs false in
set_option maxHeartbeats 2000000 in
theorem costOf_calls (nodes : Int) (ao : Option Addr) (N n cap : Nat) (es : List Ed) (bo : Option Addr) (bc : Nat) (on : List Int) (w : World) (h : ERow w ao n cap es) (hJ : JRow w bo n bc on) (RG : Right N n es) (ho : ∀ i, i < n → 0 ≤ zAt on i ∧ zAt on i ≤ 1048576) :
    Calls Try.prog 61 #[.slice bo n bc, .agg #[.int .i64 nodes, .slice ao n cap]] w fun e w' => e = .returned (.int .i64 (costTo es (zAt on) n)) ∧ Kept w w' := by
  have hr := h.room
  have hm := h.most
  have hr2 := hJ.room
  have hm2 := hJ.most
  unfold maxLen at hm hm2
  have hn := RG.edges
  have KW : Kept w (w.alloc (Obj.cells #[.int .i64 nodes, .slice ao n cap] 24)) := (Kept.refl w).alloc _
  have HE := hid_of (h.kept KW)
  have HB := hid_of (hJ.kept KW)
  have RGH := hid_of RG
  have HO := hid_of ho
  clear h hJ RG ho
  go_enter Try.func61, Try.ntmps61
  go_wp2_with fail
  generalize w.alloc (Obj.cells #[.int .i64 nodes, .slice ao n cap] 24) = W1 at KW HE HB ⊢
  go_loopw [5, 6, 7, 11] (fun s _ _ i wr => ∃ (k : Nat), k ≤ n ∧ i = .int .i64 k ∧ s = .int .i64 (costTo es (zAt on) k) ∧ Kept W1 wr) (fun _ _ _ i _ => n - (intOf i).toNat)
  case atStart => exact ⟨0, by omega, rfl, rfl, Kept.refl _⟩
  case round =>
    obtain ⟨k, hk, rfl, rfl, K⟩ := hrel
    by_cases hgo : (k : Int) < (n : Int)
    · obtain ⟨b, off, rfl, hc⟩ := HE.out.cell (by omega)
      obtain ⟨c1, c2, c3, c4⟩ := hc k (by omega)
      obtain ⟨s1, s2⟩ := cost_bd RGH.out (zAt on) HO.out k hk
      obtain ⟨l1, l2⟩ := RGH.out.costs k (by omega)
      obtain ⟨l3, l4⟩ := HO.out k (by omega)
      obtain ⟨b2, off2, rfl, hc2⟩ := HB.out.at (by omega)
      have SU := hid_of (cost_succ es (zAt on) k)
      have d1 := K.cell c1
      have d2 := K.cell c2
      have d3 := K.cell c3
      have d4 := K.cell c4
      have d5 := K.cell (hc2 k (by omega))
      clear hc c1 c2 c3 c4 hc2 HE HB
      generalize costTo es (zAt on) k = sum at s1 s2 SU
      generalize zAt on k = x at d5 l3 l4 SU
      generalize edAt es k = e at d1 d2 d3 d4 l1 l2 SU
      obtain ⟨ef, et, ec, ek⟩ := e
      simp only at d1 d2 d3 d4 l1 l2 SU
      obtain ⟨p1, p2⟩ := mul_bd (X := 1048576) (Y := 1048576) (by omega) l1 l2 l3 l4
      have WR : IntKind.i64.wrap (sum + IntKind.i64.wrap (ek * x)) = sum + ek * x := by rw [wrap_id (x := ek * x) (by omega) (by omega), wrap_id (by omega) (by omega)]
      clear p1 p2 l1 l2 l3 l4 s1 s2
      have KE := K.alloc (Obj.cells #[.int .i64 ef, .int .i64 et, .int .i64 ec, .int .i64 ek] 98)
      have d6 := ((Kept.refl wr).alloc (Obj.cells #[.int .i64 ef, .int .i64 et, .int .i64 ec, .int .i64 ek] 98)).cell d5
      have d7 : (wr.alloc (Obj.cells #[.int .i64 ef, .int .i64 et, .int .i64 ec, .int .i64 ek] 98)).cell? ⟨wr.heap.size, 3, none⟩ = some (.int .i64 ek) := by simp [go_sem]
      go_wp2_with fail
      generalize wr.alloc (Obj.cells #[.int .i64 ef, .int .i64 et, .int .i64 ec, .int .i64 ek] 98) = W2 at KE d6 d7 ⊢
      refine Ord.region [(0, 0), (1, 0), (2, 1), (3, 0), (4, 0), (5, 0), (6, 1), (7, 0), (8, 0), (9, 0)] (fun w' => Kept W2 w') (by kernel_rfl) (by kernel_rfl) (by kernel_rfl) (by kernel_rfl) (fun _ _ d _ _ h => by cases d <;> exact h) ((Kept.refl _).drewN _) ?_
      repeat
        refine Ord.step rfl (fun Ko hK => ?_)
        simp only [Ord.body]
        go_simp
        first
          | (refine hK _ _ ?_; clear hK Ko)
          | (refine ⟨_, fun w' hS => (by have c0 := hS.cell d6; have c1 := hS.cell d7; simp only [c0, c1, Result.andThen]; rfl), hK _ _ ?_⟩; clear hK Ko)
      refine Ord.done ?_
      go_wp2
      go_roundw
      case rel => exact ⟨k + 1, by omega, by go_num, by rw [SU.out], KE.drewN _⟩
      case measure => simp [intOf]; omega
    · obtain rfl : k = n := by omega
      go_wp2
      go_ret
      exact ⟨rfl, KW.trans K⟩

theorem out_succ (es : List Ed) (on : Nat → Int) (v : Int) (k : Nat) : outTo es on v (k + 1) = outTo es on v k + ((if (edAt es k).f = v then on k else 0) - (if (edAt es k).t = v then on k else 0)) := rfl
theorem out_bd {n : Nat} (hn : n ≤ 4096) (es : List Ed) (on : Nat → Int) (ho : ∀ i, i < n → 0 ≤ on i ∧ on i ≤ 1048576) (v : Int) (k : Nat) (hk : k ≤ n) : -4294967296 ≤ outTo es on v k ∧ outTo es on v k ≤ 4294967296 := by
  have h2 := sm_bd (f := fun i => (if (edAt es i).f = v then on i else 0) - (if (edAt es i).t = v then on i else 0)) (k := k) (B := 1048576) fun i hi => by
    have g := ho i (by omega)
    show _ ≤ (if (edAt es i).f = v then on i else 0) - (if (edAt es i).t = v then on i else 0) ∧ (if (edAt es i).f = v then on i else 0) - (if (edAt es i).t = v then on i else 0) ≤ _
    split <;> split <;> omega
  unfold outTo
  omega

theorem infoL0 : (Try.prog.info? 2).map (fun i => (i.zero, i.size, i.bytes)) = some (some (.int .i64 0), 1, 8) := by kernel_rfl

set_option maxRecDepth 100000 in
set_option linter.unusedSimpArgs false in
set_option maxHeartbeats 2000000 in
theorem surplus_calls (ao : Option Addr) (N n cap : Nat) (es : List Ed) (bo : Option Addr) (bc : Nat) (on : List Int) (w : World) (h : ERow w ao n cap es) (hJ : JRow w bo n bc on) (RG : Right N n es) (ho : ∀ i, i < n → 0 ≤ zAt on i ∧ zAt on i ≤ 1048576) :
    Calls Try.prog 54 #[.slice bo n bc, .agg #[.int .i64 (N : Int), .slice ao n cap]] w fun e w' => ∃ g, e = .returned (.slice (some ⟨g, 0, none⟩) N N) ∧ LongAt w' g N (fun v => outTo es (zAt on) (v : Int) n) ∧ Kept w w' := by
  have hr := h.room
  have hm := h.most
  have hr2 := hJ.room
  have hm2 := hJ.most
  unfold maxLen at hm hm2
  have hn := RG.edges
  have hN := RG.nodes
  have hmk : ∀ w : World, (Instr.makeSlice 25 (.int .i64 (N : Int)) (.int .i64 (N : Int))).run Try.prog w = .ok (.slice (some ⟨w.heap.size, 0, none⟩) N N) (w.alloc (.cells (madeCells #[.int .i64 0] N) 2)) :=
    fun w => run_make_row' 25 2 (.int .i64 0) 8 Try.underlying25 infoL0 rfl .i64 .i64 N (by omega) (by omega) w
  have KW : Kept w (w.alloc (Obj.cells #[.int .i64 (N : Int), .slice ao n cap] 24)) := (Kept.refl w).alloc _
  have hw1 : (w.alloc (Obj.cells #[.int .i64 (N : Int), .slice ao n cap] 24)).heap.size = w.heap.size + 1 := by simp
  have w0 : (w.alloc (Obj.cells #[.int .i64 (N : Int), .slice ao n cap] 24)).cell? ⟨w.heap.size, 0, none⟩ = some (.int .i64 (N : Int)) := by simp [go_sem]
  have w1 : (w.alloc (Obj.cells #[.int .i64 (N : Int), .slice ao n cap] 24)).cell? ⟨w.heap.size, 1, none⟩ = some (.slice ao n cap) := by simp [go_sem]
  have HE := hid_of (h.kept KW)
  have HB := hid_of (hJ.kept KW)
  have RGH := hid_of RG
  have HO := hid_of ho
  clear h hJ RG ho
  go_enter Try.func54, Try.ntmps54
  go_wp2_with fail
  generalize hW1 : w.alloc (Obj.cells #[.int .i64 (N : Int), .slice ao n cap] 24) = W1 at KW HE HB w0 w1 hw1 ⊢
  clear hW1
  have R0 : LongAt (W1.alloc (.cells (madeCells #[.int .i64 0] N) 2)) (w.heap.size + 1) N (fun v => outTo es (zAt on) (v : Int) 0) := by
    rw [← hw1]
    exact World.rowIs_made W1 _ N _
  have KM : Kept W1 (W1.alloc (.cells (madeCells #[.int .i64 0] N) 2)) := (Kept.refl W1).alloc _
  have KMH := hid_of KM
  have R0H := hid_of R0
  have w2 := KM.cell w1
  clear R0 KM hmk
  generalize W1.alloc (.cells (madeCells #[.int .i64 0] N) 2) = W2 at R0H KMH w2 ⊢
  go_wp2_with fail
  go_loopw [6, 7, 14] (fun _ _ i wr => ∃ (k : Nat), k ≤ n ∧ i = .int .i64 k ∧ LongAt wr (w.heap.size + 1) N (fun v => outTo es (zAt on) (v : Int) k) ∧ Kept W1 wr) (fun _ _ i _ => n - (intOf i).toNat)
  case atStart => exact ⟨0, by omega, rfl, R0H.out, KMH.out⟩
  case round =>
    obtain ⟨k, hk, rfl, L, K⟩ := hrel
    clear R0H KMH w2
    by_cases hgo : (k : Int) < (n : Int)
    · obtain ⟨b, off, rfl, hc⟩ := HE.out.cell (by omega)
      obtain ⟨c1, c2, c3, c4⟩ := hc k (by omega)
      obtain ⟨e1, e2, e3, e4⟩ := RGH.out.ends k (by omega)
      obtain ⟨l3, l4⟩ := HO.out k (by omega)
      obtain ⟨b2, off2, rfl, hc2⟩ := HB.out.at (by omega)
      have SU : Hid (∀ v : Int, outTo es (zAt on) v (k + 1) = outTo es (zAt on) v k + ((if (edAt es k).f = v then zAt on k else 0) - (if (edAt es k).t = v then zAt on k else 0))) := fun v => out_succ es (zAt on) v k
      have BD : Hid (∀ v : Int, -4294967296 ≤ outTo es (zAt on) v k ∧ outTo es (zAt on) v k ≤ 4294967296) := fun v => out_bd hn es (zAt on) HO.out v k hk
      have d1 := K.cell c1
      have d2 := K.cell c2
      have d3 := K.cell c3
      have d4 := K.cell c4
      have d5 := K.cell (hc2 k (by omega))
      have lb := lt_cell (hc2 k (by omega))
      rw [hw1] at lb
      simp only at lb
      clear hc c1 c2 c3 c4 hc2 HE HB
      generalize zAt on k = x at d5 l3 l4 SU
      generalize edAt es k = e at d1 d2 d3 d4 e1 e2 e3 e4 SU
      obtain ⟨ef, et, ec, ek⟩ := e
      simp only at d1 d2 d3 d4 e1 e2 e3 e4
      obtain ⟨fn, rfl⟩ : ∃ fn : Nat, ef = (fn : Int) := ⟨ef.toNat, by omega⟩
      obtain ⟨tn, rfl⟩ : ∃ tn : Nat, et = (tn : Int) := ⟨et.toNat, by omega⟩
      have hfn : fn < N := by omega
      have htn : tn < N := by omega
      have lg : w.heap.size + 1 < wr.heap.size := L.lt
      have KA := (Kept.refl wr).alloc (Obj.cells #[.int .i64 (fn : Int), .int .i64 (tn : Int), .int .i64 ec, .int .i64 ek] 98)
      have KE := K.trans KA
      have L2 := L.kept KA
      have d6 := KA.cell d5
      have d7 : (wr.alloc (Obj.cells #[.int .i64 (fn : Int), .int .i64 (tn : Int), .int .i64 ec, .int .i64 ek] 98)).cell? ⟨wr.heap.size, 0, none⟩ = some (.int .i64 (fn : Int)) := by simp [go_sem]
      have d8 : (wr.alloc (Obj.cells #[.int .i64 (fn : Int), .int .i64 (tn : Int), .int .i64 ec, .int .i64 ek] 98)).cell? ⟨wr.heap.size, 1, none⟩ = some (.int .i64 (tn : Int)) := by simp [go_sem]
      have L2H := hid_of L2
      have KEH := hid_of KE
      clear L L2 KA KE K
      go_wp2_with fail
      generalize wr.alloc (Obj.cells #[.int .i64 (fn : Int), .int .i64 (tn : Int), .int .i64 ec, .int .i64 ek] 98) = W3 at KEH L2H d6 d7 d8 ⊢
      have d9 := L2H.out.cell hfn
      have f9 := L2H.out.frozen fn
      have f9' : (W3.drewN 1).frozen? ⟨w.heap.size + 1, fn, none⟩ = false := f9
      have d9' : (W3.drewN 1).cell? ⟨w.heap.size + 1, fn, none⟩ = some (.int .i64 (outTo es (zAt on) (fn : Int) k)) := d9
      obtain ⟨bd1, bd2⟩ := BD.out (fn : Int)
      obtain ⟨bd3, bd4⟩ := BD.out (tn : Int)
      have WR1 : IntKind.i64.wrap (outTo es (zAt on) (fn : Int) k + x) = outTo es (zAt on) (fn : Int) k + x := wrap_id (by omega) (by omega)
      refine Ord.regionZ 11 [(0, 0), (1, 0), (2, 1), (3, 0), (4, 1), (5, 0), (6, 0), (7, 0), (8, 1), (9, 0), (10, 0), (11, 3)] (fun w' => Kept W3 w') (by kernel_rfl) (by kernel_rfl) (by kernel_rfl) (by kernel_rfl) (fun _ _ d _ _ h => by cases d <;> exact h) ((Kept.refl _).drewN _) ?_
      repeat
        refine Ord.stepZ rfl (fun Ko hK => ?_)
        simp only [Ord.bodyZ, Ord.body]
        go_simp
        first
          | (refine hK _ _ ?_; clear hK Ko)
          | (refine ⟨(Kept.refl _).drewN _, hK _ _ ?_⟩; clear hK Ko)
          | (refine ⟨_, fun w' hS => (by have c0 := hS.cell d6; simp only [c0, Result.andThen]; rfl), hK _ _ ?_⟩; clear hK Ko)
          | (refine ⟨_, fun w' hS => (by have c0 := hS.cell d7; simp only [c0, Result.andThen]; rfl), hK _ _ ?_⟩; clear hK Ko)
          | (refine ⟨_, fun w' hS => (by have c0 := hS.cell d9; simp only [c0, Result.andThen]; rfl), hK _ _ ?_⟩; clear hK Ko)
      refine Ord.doneZ ?_
      have L3 := (L2H.out.kept ((Kept.refl W3).drewN 1)).set fn (outTo es (zAt on) (fn : Int) k + x)
      have K3 := (KEH.out.drewN 1).setCell (p := ⟨w.heap.size + 1, fn, none⟩) (by rw [hw1]; exact Nat.le_refl _) (.int .i64 (outTo es (zAt on) (fn : Int) k + x))
      have d6 : ((W3.drewN 1).setCell ⟨w.heap.size + 1, fn, none⟩ (.int .i64 (outTo es (zAt on) (fn : Int) k + x))).cell? ⟨b2, off2 + k, none⟩ = some (.int .i64 x) := by
        rw [World.cell?_setCell_other _ _ _ _ (fun e => by have := congrArg Addr.block e; simp at this; omega)]; exact d6
      have d8 : ((W3.drewN 1).setCell ⟨w.heap.size + 1, fn, none⟩ (.int .i64 (outTo es (zAt on) (fn : Int) k + x))).cell? ⟨wr.heap.size, 1, none⟩ = some (.int .i64 (tn : Int)) := by
        rw [World.cell?_setCell_other _ _ _ _ (fun e => by have := congrArg Addr.block e; simp at this; omega)]; exact d8
      have L3H := hid_of L3
      have K3H := hid_of K3
      clear d7 d9 d9' f9 f9' L2H KEH L3 K3
      go_wp2_with fail
      generalize (W3.drewN 1).setCell ⟨w.heap.size + 1, fn, none⟩ (.int .i64 (outTo es (zAt on) (fn : Int) k + x)) = W4 at d6 d8 L3H K3H ⊢
      have d9 := L3H.out.cell htn
      have f9 := L3H.out.frozen tn
      obtain ⟨y, hy⟩ : ∃ y, (if tn = fn then outTo es (zAt on) (fn : Int) k + x else outTo es (zAt on) (tn : Int) k) = y := ⟨_, rfl⟩
      rw [hy] at d9
      have y1 : -4296015872 ≤ y := by rw [← hy]; split <;> omega
      have y2 : y ≤ 4296015872 := by rw [← hy]; split <;> omega
      have HY := hid_of hy
      have WR2 : IntKind.i64.wrap (y - x) = y - x := wrap_id (by omega) (by omega)
      have f9' : (W4.drewN 1).frozen? ⟨w.heap.size + 1, tn, none⟩ = false := f9
      have d9' : (W4.drewN 1).cell? ⟨w.heap.size + 1, tn, none⟩ = some (.int .i64 y) := d9
      clear hy y1 y2 bd1 bd2 bd3 bd4 WR1
      refine Ord.regionZ 11 [(0, 0), (1, 0), (2, 1), (3, 0), (4, 1), (5, 0), (6, 0), (7, 0), (8, 1), (9, 0), (10, 0), (11, 3)] (fun w' => Kept W4 w') (by kernel_rfl) (by kernel_rfl) (by kernel_rfl) (by kernel_rfl) (fun _ _ d _ _ h => by cases d <;> exact h) ((Kept.refl _).drewN _) ?_
      repeat
        refine Ord.stepZ rfl (fun Ko hK => ?_)
        simp only [Ord.bodyZ, Ord.body]
        go_simp
        first
          | (refine hK _ _ ?_; clear hK Ko)
          | (refine ⟨(Kept.refl _).drewN _, hK _ _ ?_⟩; clear hK Ko)
          | (refine ⟨_, fun w' hS => (by have c0 := hS.cell d6; simp only [c0, Result.andThen]; rfl), hK _ _ ?_⟩; clear hK Ko)
          | (refine ⟨_, fun w' hS => (by have c0 := hS.cell d8; simp only [c0, Result.andThen]; rfl), hK _ _ ?_⟩; clear hK Ko)
          | (refine ⟨_, fun w' hS => (by have c0 := hS.cell d9; simp only [c0, Result.andThen]; rfl), hK _ _ ?_⟩; clear hK Ko)
      refine Ord.doneZ ?_
      have L4 := hid_of ((L3H.out.kept ((Kept.refl W4).drewN 1)).set tn (y - x))
      have K4 := hid_of ((K3H.out.drewN 1).setCell (p := ⟨w.heap.size + 1, tn, none⟩) (by rw [hw1]; exact Nat.le_refl _) (.int .i64 (y - x)))
      clear d9 d9' f9 f9' L3H K3H
      go_wp2_with fail
      go_roundw
      case rel =>
        refine ⟨k + 1, by omega, by go_num, World.rowIs.congr L4.out fun v hv => ?_, K4.out⟩
        show Value.int .i64 _ = Value.int .i64 _
        dsimp only
        rw [SU.out, ← HY.out]
        congr 1
        simp only [Int.natCast_inj]
        by_cases z1 : v = tn
        · subst z1
          by_cases z2 : v = fn
          · subst z2
            simp
            try omega
          · have z3 : ¬ fn = v := fun e => z2 e.symm
            simp [z2, z3]
            try omega
        · by_cases z2 : v = fn
          · subst z2
            have z3 : ¬ tn = v := fun e => z1 e.symm
            simp [z1, z3]
          · have z3 : ¬ tn = v := fun e => z1 e.symm
            have z4 : ¬ fn = v := fun e => z2 e.symm
            simp [z1, z2, z3, z4]
      case measure => simp [intOf]; omega
    · obtain rfl : k = n := by omega
      go_wp2
      go_ret
      exact ⟨_, rfl, L, KW.trans K⟩
end Go.Proofs.Ytomopfjaebcpeaa

/- The document's Circle, at a circle. -/
import Derived.Test.YtjheiaegpoppaaaWkO
namespace Go.Proofs.Ytjheiaegpoppaaa
open Go.RowKit

/-- Where the first k edges lead. -/
def tosTo (es : List Ed) (c : List Nat) (k : Nat) : List Nat := (c.take k).map fun i => (edAt es i).t.toNat

theorem tosTo_succ {es : List Ed} {c : List Nat} {k : Nat} (hk : k < c.length) : tosTo es c (k + 1) = tosTo es c k ++ [(edAt es (c.getD k 0)).t.toNat] := by
  unfold tosTo
  rw [List.take_succ_eq_append_getElem hk, List.map_append]
  simp [List.getD, hk]

theorem tosTo_new {es : List Ed} {c : List Nat} (h : Circ es c) (hrg : ∀ e ∈ es, 0 ≤ e.t) {k t : Nat} (hk : k < c.length) (ht : (edAt es (c.getD k 0)).t = (t : Int)) : (tosTo es c k).contains t = false := by
  have hx : t ∉ tosTo es c k := fun hm => by
    unfold tosTo at hm
    simp only [List.mem_map] at hm
    obtain ⟨i, hi, e⟩ := hm
    obtain ⟨j, hj, rfl⟩ := List.getElem_of_mem hi
    simp only [List.length_take] at hj
    have hjc : j < c.length := by omega
    rw [List.getElem_take] at e
    have h0 := hrg _ (edAt_mem (h.lt _ (List.getElem_mem hjc)))
    have ap := h.apart
    unfold List.Nodup at ap
    have := List.pairwise_iff_getElem.1 ap j k (by simpa using hjc) (by simpa using hk) (by omega)
    simp only [List.getElem_map] at this
    refine this ?_
    have ek : c.getD k 0 = c[k] := by simp [List.getD, hk]
    rw [← ek, ht]
    omega
  simpa using hx

set_option maxRecDepth 100000 in
set_option maxHeartbeats 4000000 in
theorem circle_calls (n : Nat) (hn : n ≤ 1024) (ao : Option Addr) (m cap : Nat) (es : List Ed) (w : World) (h : ERow w ao m cap es) (hrg : Hid (∀ e ∈ es, 0 ≤ e.f ∧ e.f < (n : Int) ∧ 0 ≤ e.t ∧ e.t < (n : Int))) (co : Option Addr) (L cc : Nat) (c : List Nat) (hC : Hid (Circ es c)) (J : JRow w co L cc (qz c)) :
    Calls Try.prog 16 #[.agg #[.int .i64 (n : Int), .slice ao m cap], .slice co L cc] w fun r w' => r = .returned (.bool true) ∧ Kept w w' := by
  have hnot : ∀ (x : Bool) (w : World), (Op.unary .not (.bool x)).run Try.prog w = .ok (.bool (!x)) w := fun _ _ => rfl
  have hmkB : ∀ w : World, (Instr.makeSlice 40 (.int .i64 (n : Int)) (.int .i64 (n : Int))).run Try.prog w = .ok (.slice (some ⟨w.heap.size, 0, none⟩) n n) (w.alloc (.cells (madeCells #[.bool false] n) 4)) :=
    fun w => run_make_row' 40 4 (.bool false) 1 Try.underlying40 infoB0 rfl .i64 .i64 n (by omega) (by omega) w
  have KG : Kept w (w.alloc (Obj.cells #[.int .i64 (n : Int), .slice ao m cap] 24)) := (Kept.refl w).alloc _
  have g0 : (w.alloc (Obj.cells #[.int .i64 (n : Int), .slice ao m cap] 24)).cell? ⟨w.heap.size, 0, none⟩ = some (.int .i64 (n : Int)) := by simp [go_sem]
  have g1 : (w.alloc (Obj.cells #[.int .i64 (n : Int), .slice ao m cap] 24)).cell? ⟨w.heap.size, 1, none⟩ = some (.slice ao m cap) := by simp [go_sem]
  have HE := hid_of (h.kept KG)
  have JE := hid_of (J.kept KG)
  have hlc : L = c.length := by have := J.len; simpa [qz] using this
  have hL0 : 0 < L := by rw [hlc]; exact hC.out.pos
  have hLm : L ≤ m := by rw [hlc, h.len]; exact hC.out.le
  have HLC := hid_of hlc
  have HLE := hid_of h.len
  have hr := h.room
  have hmx := h.most
  have hr2 := J.room
  have hmx2 := J.most
  unfold maxLen at hmx hmx2
  have q0 : ((L : Int) == 0) = false := by rw [beq_eq_false_iff_ne]; omega
  have q1 : ¬ (m : Int) < (L : Int) := by omega
  clear h J hlc
  go_enter Try.func16, Try.ntmps16
  go_upto_region 3 with fail
  generalize hW0 : w.alloc (Obj.cells #[.int .i64 (n : Int), .slice ao m cap] 24) = wb at KG g0 g1 HE JE ⊢
  clear hW0
  have KB := hid_of KG
  clear KG
  have B3 := World.rowIs_made wb (.bool false) n 4
  have K3 : Kept wb (wb.alloc (.cells (madeCells #[.bool false] n) 4)) := (Kept.refl wb).alloc _
  have B3H : Hid (BoolsAt (wb.alloc (.cells (madeCells #[.bool false] n) 4)) wb.heap.size n (fun v => (tosTo es c 0).contains v)) := World.rowIs.congr B3 (fun i _ => by simp [tosTo])
  have K3H := hid_of K3
  clear B3
  go_upto_region 4 with fail
  generalize hW3 : wb.alloc (.cells (madeCells #[.bool false] n) 4) = W3 at K3 B3H K3H ⊢
  clear hW3 hmkB K3
  obtain ⟨q, hq⟩ : ∃ q, wb.heap.size = q := ⟨_, rfl⟩
  rw [hq] at B3H ⊢
  have HQ := hid_of hq
  clear hq
  go_wp2_with fail
  go_loopw [6, 7] (fun i _ wr => ∃ k : Nat, k ≤ L ∧ i = .int .i64 (k : Int) ∧ BoolsAt wr q n (fun v => (tosTo es c k).contains v) ∧ Kept wb wr) (fun i _ _ => L - (intOf i).toNat)
  case atStart => exact ⟨0, by omega, rfl, B3H.out, K3H.out⟩
  case round =>
    obtain ⟨k, hk, rfl, BR, K⟩ := hrel
    clear B3H K3H
    have x1 := K.cell g1
    have BRH := hid_of BR
    have KH := hid_of K
    by_cases hgo : (k : Int) < (L : Int)
    · obtain ⟨b2, off2, rfl, hc2⟩ := JE.out.cell (by omega)
      obtain ⟨b, off, rfl, hc⟩ := HE.out.cell (by omega)
      obtain ⟨x, hx⟩ : ∃ x, c.getD k 0 = x := ⟨_, rfl⟩
      obtain ⟨y, hy⟩ : ∃ y, c.getD ((k + 1) % L) 0 = y := ⟨_, rfl⟩
      have hkc : k < c.length := by have := HLC.out; omega
      have hk2 : (k + 1) % L < L := Nat.mod_lt _ (by omega)
      have hmemx : x ∈ c := by rw [← hx]; simp [List.getD, hkc]
      have hmemy : y ∈ c := by rw [← hy]; have : (k + 1) % L < c.length := by have := HLC.out; omega
                               simp [List.getD, this]
      have hxm : x < m := by rw [HLE.out]; exact hC.out.lt x hmemx
      have hym : y < m := by rw [HLE.out]; exact hC.out.lt y hmemy
      have ck := K.cell (hc2 k (by omega))
      have cn := K.cell (hc2 ((k + 1) % L) hk2)
      have gz : ∀ i, i < c.length → (qz c).getD i 0 = ((c.getD i 0 : Nat) : Int) := fun i hi => by simp [qz, List.getD, hi]
      rw [gz k hkc, hx] at ck
      rw [gz _ (by have := HLC.out; omega), hy] at cn
      have ex := K.cell (hc x hxm).2.1
      have ey := K.cell (hc y hym).1
      have st := hC.out.step k hkc
      rw [← HLC.out, hx, hy] at st
      have RG := hrg.out _ (edAt_mem (by rw [← HLE.out]; exact hxm : x < es.length))
      obtain ⟨t, ht⟩ : ∃ t : Nat, (edAt es x).t = (t : Int) := ⟨(edAt es x).t.toNat, by omega⟩
      rw [← st] at ey
      rw [ht] at ex ey RG
      have htn : t < n := by omega
      have hti : (t : Int) < (n : Int) := by omega
      have hxi : (x : Int) < (m : Int) := by omega
      have hyi : (y : Int) < (m : Int) := by omega
      have SU : Hid (tosTo es c (k + 1) = tosTo es c k ++ [t]) := by
        refine (tosTo_succ hkc).trans ?_
        rw [hx, ht, Int.toNat_natCast]
      have NE := hid_of (tosTo_new hC.out (fun e he => (hrg.out e he).2.2.1) hkc (by rw [hx]; exact ht))
      have qt : ((t : Int) != (t : Int)) = false := by simp
      clear hc hc2 gz st hmemx hmemy K
      go_wp2_with fail
      go_quiet (fail)
      have KD : Kept wr (wr.drewN nq) := (Kept.refl wr).drewN nq
      replace ck := KD.cell ck
      replace cn := KD.cell cn
      replace ex := KD.cell ex
      replace ey := KD.cell ey
      replace x1 := KD.cell x1
      have BA := hid_of (BRH.out.kept KD)
      have KA := hid_of (KH.out.trans KD)
      generalize wr.drewN nq = WA at ck cn ex ey x1 BA KA ⊢
      clear KD BRH KH BR
      obtain ⟨r, hr'⟩ : ∃ r, (k + 1) % L = r := ⟨_, rfl⟩
      have hrem : ((k : Int) + 1).tmod (L : Int) = (r : Int) := by
        rw [Int.tmod_eq_emod_of_nonneg (by omega), ← hr', Int.natCast_emod, Int.natCast_add]
        rfl
      rw [hr'] at cn hk2
      have hri : (r : Int) < (L : Int) := by omega
      have hLz : ¬ (L : Int) = 0 := by omega
      have hLz' : ((L : Int) == 0) = false := by rw [beq_eq_false_iff_ne]; omega
      clear hr'
      have nx0 : ¬ (x : Int) < 0 := by omega
      have nx1 : ¬ (m : Int) ≤ (x : Int) := by omega
      have ny0 : ¬ (y : Int) < 0 := by omega
      have ny1 : ¬ (m : Int) ≤ (y : Int) := by omega
      go_wp2_with fail
      have st := BA.out.cell htn
      rw [NE.out] at st
      go_quiet (fail)
      have KD : Kept WA (WA.drewN nq) := (Kept.refl WA).drewN nq
      replace ck := KD.cell ck
      replace ex := KD.cell ex
      replace x1 := KD.cell x1
      have BB := hid_of (BA.out.kept KD)
      have KBB := hid_of (KA.out.trans KD)
      generalize WA.drewN nq = WB at ck ex x1 BB KBB ⊢
      clear KD BA KA cn ey st hrem
      have cs := BB.out.cell htn
      have fs := World.rowIs.frozen BB.out t
      go_wp2_with fail
      refine Ord.regionZ 11 [(0, 0), (1, 0), (2, 1), (3, 0), (4, 0), (5, 0), (6, 1), (7, 0), (8, 0), (9, 1), (10, 0), (11, 3)] (fun w' => Kept WB w') (by kernel_rfl) (by kernel_rfl) (by kernel_rfl) (by kernel_rfl) (fun _ _ d _ _ h => by cases d <;> exact h) ((Kept.refl _).drewN _) ?_
      repeat
        refine Ord.stepZ rfl (fun Ko hK => ?_)
        simp only [Ord.bodyZ, Ord.body]
        go_simp
        first
          | (refine hK _ _ ?_; clear hK Ko)
          | (refine ⟨(Kept.refl _).drewN _, hK _ _ ?_⟩; clear hK Ko)
          | (refine ⟨_, fun w' hS => (by have c0 := hS.cell ck; simp only [c0, Result.andThen]; rfl), hK _ _ ?_⟩; clear hK Ko)
          | (refine ⟨_, fun w' hS => (by have c0 := hS.cell ex; simp only [c0, Result.andThen]; rfl), hK _ _ ?_⟩; clear hK Ko)
          | (refine ⟨_, fun w' hS => (by have c0 := hS.cell x1; simp only [c0, Result.andThen]; rfl), hK _ _ ?_⟩; clear hK Ko)
      refine Ord.doneZ ?_
      have KD2 : Kept WB (WB.drewN 1) := (Kept.refl WB).drewN 1
      have BN : Hid (BoolsAt ((WB.drewN 1).setCell ⟨q, t, none⟩ (.bool true)) q n (fun v => (tosTo es c (k + 1)).contains v)) := (BoolsAt.set (BB.out.kept KD2) t true).congr (fun u _ => by
        rw [SU.out]
        by_cases hu : u = t
        · simp [hu]
        · simp [hu])
      have KN : Hid (Kept wb ((WB.drewN 1).setCell ⟨q, t, none⟩ (.bool true))) := (KBB.out.trans KD2).setCell (p := ⟨q, t, none⟩) (by rw [HQ.out]; exact Nat.le_refl _) _
      go_wp2_with fail
      go_roundw
      case rel => exact ⟨k + 1, by omega, by go_num, BN.out, KN.out⟩
      case measure => simp [intOf]; omega
    · clear BRH BR
      have KF := hid_of (KB.out.trans KH.out)
      clear K KH
      go_wp2_with fail
      go_ret
      exact ⟨rfl, KF.out⟩
end Go.Proofs.Ytjheiaegpoppaaa

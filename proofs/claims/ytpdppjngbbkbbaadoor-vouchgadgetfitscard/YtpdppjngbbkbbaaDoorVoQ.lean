/- Duals without sets: pairWeights; mustProve. -/
import Derived.Test.YtpdppjngbbkbbaaDoorVoP
namespace Go.Proofs.YtpdppjngbbkbbaaDoor
open Go.RowKit

/-- What weights make of two nodes. -/
def pairOf (Y : List Int) (ss : Sets) (ns : Nat) (u v : Nat) : Int := zAt Y u + zAt Y v - sm (fun i => if inTo (setAt ss i).1 (setAt ss i).1.length u && inTo (setAt ss i).1 (setAt ss i).1.length v then (setAt ss i).2 else 0) ns

/-- A function that tells what two nodes weigh, in whatever memory comes. -/
def Weighs (w : World) (caps : Array Value) (N : Nat) (pr : Nat → Nat → Int) : Prop :=
  ∀ w1, Kept w w1 → ∀ u v : Nat, u < N → v < N → Calls Tryd.prog 111 (#[.int .i64 (u : Int), .int .i64 (v : Int)] ++ caps) w1 fun e w2 => e = .returned (.int .i64 (pr u v)) ∧ Kept w1 w2

theorem infoW0 : (Tryd.prog.info? 144).map (fun i => (i.zero, i.size, i.bytes)) = some (some (.slice none 0 0), 1, 24) := by kernel_rfl
theorem infoU0 : (Tryd.prog.info? 145).map (fun i => (i.zero, i.size, i.bytes)) = some (some (.int .u64 0), 1, 8) := by kernel_rfl

set_option maxRecDepth 100000 in
set_option linter.unusedSimpArgs false in
set_option maxHeartbeats 4000000 in
/-- Where there is no set. -/
theorem weight0_calls (N : Nat) (yo : Option Addr) (yc : Nat) (Y : List Int) (db kb ib : Nat) (u v : Nat) (w : World) (hY : JRow w yo N yc Y) (hp : ∀ i, i < N → -4398046511104 ≤ zAt Y i ∧ zAt Y i ≤ 4398046511104) (hd : w.cell? ⟨db, 0, none⟩ = some (.slice yo N yc)) (hk : w.cell? ⟨kb, 0, none⟩ = some (.int .i64 0)) (hu : u < N) (hv : v < N) :
    Calls Tryd.prog 111 #[.int .i64 (u : Int), .int .i64 (v : Int), .pointer (some ⟨db, 0, none⟩), .pointer (some ⟨kb, 0, none⟩), .pointer (some ⟨ib, 0, none⟩)] w fun e w' => e = .returned (.int .i64 (zAt Y u + zAt Y v)) ∧ Kept w w' := by
  have hr2 := hY.room
  have hm2 := hY.most
  unfold maxLen at hm2
  obtain ⟨b, off, rfl, hc⟩ := hY.at (by omega)
  have cu := hc u hu
  have cv := hc v hv
  obtain ⟨u1, u2⟩ := hp u hu
  obtain ⟨v1, v2⟩ := hp v hv
  clear hY hc hp
  generalize zAt Y u = x at cu u1 u2
  generalize zAt Y v = y at cv v1 v2
  have WR : IntKind.i64.wrap (x + y) = x + y := wrap_id (by omega) (by omega)
  have KD : Kept w (w.drewN 1) := (Kept.refl w).drewN 1
  have hk2 := KD.cell hk
  go_enter Tryd.func111, Tryd.ntmps111
  go_wp2_with fail
  refine Ord.region [(0, 0), (1, 1), (2, 0), (3, 0), (4, 1), (5, 0), (6, 1), (7, 0), (8, 0), (9, 1), (10, 0), (11, 0)] (fun w' => Kept w w') (by kernel_rfl) (by kernel_rfl) (by kernel_rfl) (by kernel_rfl) (fun _ _ d _ _ h => by cases d <;> exact h) ((Kept.refl _).drewN _) ?_
  repeat
    refine Ord.step rfl (fun Ko hK => ?_)
    simp only [Ord.body]
    go_simp
    first
      | (refine hK _ _ ?_; clear hK Ko)
      | (refine ⟨_, fun w' hS => (by have c0 := hS.cell hd; have c1 := hS.cell cu; have c2 := hS.cell cv; simp only [c0, c1, c2, Result.andThen]; rfl), hK _ _ ?_⟩; clear hK Ko)
  refine Ord.done ?_
  go_wp2_with fail
  go_loopw [8, 9, 23] (fun s _ i wr => s = .int .i64 (x + y) ∧ i = .int .i64 0 ∧ w.drewN 1 = wr) (fun _ _ _ _ => 0)
  case atStart => exact ⟨rfl, rfl, rfl⟩
  case round =>
    obtain ⟨rfl, rfl, rfl⟩ := hrel
    go_wp2
    go_ret
    exact ⟨rfl, KD⟩

set_option maxRecDepth 100000 in
set_option linter.unusedSimpArgs false in
set_option maxHeartbeats 4000000 in
theorem pairW0_calls (N : Nat) (hN : N ≤ 1024) (yo : Option Addr) (yc : Nat) (Y : List Int) (so : Option Addr) (sc : Nat) (w : World) (hY : JRow w yo N yc Y) (hp : ∀ i, i < N → -4398046511104 ≤ zAt Y i ∧ zAt Y i ≤ 4398046511104) :
    Calls Tryd.prog 102 #[.agg #[.slice yo N yc, .slice so 0 sc], .int .i64 (N : Int)] w fun e w' => ∃ c1 c2 c3, e = .returned (.func (.func 111) #[] #[.pointer (some ⟨c1, 0, none⟩), .pointer (some ⟨c2, 0, none⟩), .pointer (some ⟨c3, 0, none⟩)]) ∧ Kept w w' ∧ Weighs w' #[.pointer (some ⟨c1, 0, none⟩), .pointer (some ⟨c2, 0, none⟩), .pointer (some ⟨c3, 0, none⟩)] N (fun u v => zAt Y u + zAt Y v) := by
  have hmk : ∀ w : World, (Instr.makeSlice 143 (.int .i64 (N : Int)) (.int .i64 (N : Int))).run Tryd.prog w = .ok (.slice (some ⟨w.heap.size, 0, none⟩) N N) (w.alloc (.cells (madeCells #[.slice none 0 0] N) 144)) :=
    fun w => run_make_row' 143 144 (.slice none 0 0) 24 Tryd.underlying143 infoW0 rfl .i64 .i64 N (by omega) (by omega) w
  have hmk2 : ∀ w : World, (Instr.makeSlice 144 (.int .i64 0) (.int .i64 0)).run Tryd.prog w = .ok (.slice (some ⟨w.heap.size, 0, none⟩) 0 0) (w.alloc (.cells (madeCells #[.int .u64 0] 0) 145)) :=
    fun w => run_make_row' 144 145 (.int .u64 0) 8 Tryd.underlying144 infoU0 rfl .i64 .i64 0 (by omega) (by omega) w
  have HY := hid_of hY
  have HP := hid_of hp
  clear hY hp
  have KW : Kept w ((w.alloc (Obj.cells #[.slice yo N yc, .slice so 0 sc] 45)).alloc (Obj.cells #[.int .i64 0] 3)) := ((Kept.refl w).alloc _).alloc _
  have w0 : ((w.alloc (Obj.cells #[.slice yo N yc, .slice so 0 sc] 45)).alloc (Obj.cells #[.int .i64 0] 3)).cell? ⟨w.heap.size, 0, none⟩ = some (.slice yo N yc) := by simp [go_sem]
  have w1 : ((w.alloc (Obj.cells #[.slice yo N yc, .slice so 0 sc] 45)).alloc (Obj.cells #[.int .i64 0] 3)).cell? ⟨w.heap.size, 1, none⟩ = some (.slice so 0 sc) := by simp [go_sem]
  have w2 : ((w.alloc (Obj.cells #[.slice yo N yc, .slice so 0 sc] 45)).alloc (Obj.cells #[.int .i64 0] 3)).cell? ⟨w.heap.size + 1, 0, none⟩ = some (.int .i64 0) := by simp [go_sem]
  go_enter Tryd.func102, Tryd.ntmps102
  go_upto_region 2 with fail
  generalize hW1 : (w.alloc (Obj.cells #[.slice yo N yc, .slice so 0 sc] 45)).alloc (Obj.cells #[.int .i64 0] 3) = W1 at KW w0 w1 w2
  have hz1 : W1.heap.size = w.heap.size + 2 := by rw [← hW1]; simp
  clear hW1
  obtain ⟨db, hdb⟩ : ∃ db, w.heap.size = db := ⟨_, rfl⟩
  obtain ⟨q, hq⟩ : ∃ q, W1.heap.size = q := ⟨_, rfl⟩
  rw [hdb] at w0 w1 w2
  have hqd : db + 1 < q := by omega
  have hwq : w.heap.size ≤ q := by omega
  have KM : Kept W1 ((W1.alloc (.cells (madeCells #[.slice none 0 0] N) 144)).alloc (Obj.cells #[.slice (some ⟨q, 0, none⟩) N N] 143)) := ((Kept.refl W1).alloc _).alloc _
  have R0 : ((W1.alloc (.cells (madeCells #[.slice none 0 0] N) 144)).alloc (Obj.cells #[.slice (some ⟨q, 0, none⟩) N N] 143)).rowIs q 144 N (fun _ => .slice none 0 0) := by
    rw [← hq]; exact (World.rowIs_made W1 (.slice none 0 0) N 144).alloc _
  have b0 : ((W1.alloc (.cells (madeCells #[.slice none 0 0] N) 144)).alloc (Obj.cells #[.slice (some ⟨q, 0, none⟩) N N] 143)).cell? ⟨q + 1, 0, none⟩ = some (.slice (some ⟨q, 0, none⟩) N N) := by simp [go_sem, ← hq]
  rw [hdb]
  clear hz1
  replace w0 := KM.cell w0
  replace w1 := KM.cell w1
  replace w2 := KM.cell w2
  have HKW := hid_of (KW.trans KM)
  go_upto_region 3 with fail
  generalize (W1.alloc (.cells (madeCells #[.slice none 0 0] N) 144)).alloc (Obj.cells #[.slice (some ⟨q, 0, none⟩) N N] 143) = W2 at w0 w1 w2 HKW R0 b0 ⊢
  have R0H : Hid (∃ f, W2.rowIs q 144 N f) := ⟨_, R0⟩
  have HWD := hid_of hdb
  clear hmk KM KW hq R0 hdb
  go_wp2_with fail
  go_loopw [7, 22] (fun _ i wr => ∃ (k : Nat), k ≤ N ∧ i = .int .i64 k ∧ Kept w wr ∧ (∃ f, wr.rowIs q 144 N f) ∧ wr.cell? ⟨q + 1, 0, none⟩ = some (.slice (some ⟨q, 0, none⟩) N N) ∧ wr.cell? ⟨db, 0, none⟩ = some (.slice yo N yc) ∧ wr.cell? ⟨db, 1, none⟩ = some (.slice so 0 sc) ∧ wr.cell? ⟨db + 1, 0, none⟩ = some (.int .i64 0)) (fun _ i _ => N - (intOf i).toNat)
  case atStart => exact ⟨0, by omega, rfl, HKW.out, R0H.out, b0, w0, w1, w2⟩
  case round =>
    obtain ⟨k, hk, rfl, K, ⟨f, R⟩, b0, w0, w1, w2⟩ := hrel
    have KH := hid_of K
    have RH := hid_of R
    clear HKW R0H K R
    by_cases hgo : (k : Int) < (N : Int)
    · have hkN : k < N := by omega
      have lq : q + 1 < wr.heap.size := lt_cell b0
      have hq1 : ¬ wr.heap.size = q := by omega
      have KD : Kept wr (wr.drewN 1) := (Kept.refl wr).drewN 1
      have KDA : Kept wr ((wr.drewN 1).alloc (.cells (madeCells #[.int .u64 0] 0) 145)) := KD.alloc _
      have RN := RH.out.of_block (KDA.block q RH.out.lt)
      have c1 := RN.cell hkN
      have f1 := World.rowIs.frozen RN k
      go_wp2_with fail
      refine Ord.regionZ 5 [(0, 1), (1, 0), (2, 1), (3, 2), (4, 0), (5, 3)] (fun w' => Kept wr w') (by kernel_rfl) (by kernel_rfl) (by kernel_rfl) (by kernel_rfl) (fun _ _ d _ _ h => by cases d <;> exact h) ((Kept.refl _).drewN _) ?_
      repeat
        refine Ord.stepZ rfl (fun Ko hK => ?_)
        simp only [Ord.bodyZ, Ord.body]
        go_simp
        first
          | (refine hK _ _ ?_; clear hK Ko)
          | (refine ⟨((Kept.refl _).drewN _).alloc _, hK _ _ ?_⟩; clear hK Ko)
          | (refine ⟨_, fun w' hS => (by have c0 := hS.cell b0; simp only [c0, Result.andThen]; rfl), hK _ _ ?_⟩; clear hK Ko)
          | (refine ⟨_, fun w' hS => (by have c0 := hS.cell w2; simp only [c0, Result.andThen]; rfl), hK _ _ ?_⟩; clear hK Ko)
      refine Ord.doneZ ?_
      have RS := hid_of (⟨_, RN.set k (.slice (some ⟨wr.heap.size, 0, none⟩) 0 0)⟩ : ∃ f, (((wr.drewN 1).alloc (Obj.cells (madeCells #[Value.int IntKind.u64 0] 0) 145)).setCell ⟨q, k, none⟩ (.slice (some ⟨wr.heap.size, 0, none⟩) 0 0)).rowIs q 144 N f)
      have KS : Hid (Kept w (((wr.drewN 1).alloc (Obj.cells (madeCells #[Value.int IntKind.u64 0] 0) 145)).setCell ⟨q, k, none⟩ (.slice (some ⟨wr.heap.size, 0, none⟩) 0 0))) := (KH.out.trans KDA).setCell (p := ⟨q, k, none⟩) hwq _
      have B0 := hid_of (cell_put (i := k) (u := .slice (some ⟨wr.heap.size, 0, none⟩) 0 0) (KDA.cell b0) (by omega : ¬ q + 1 = q))
      have D0 := hid_of (cell_put (i := k) (u := .slice (some ⟨wr.heap.size, 0, none⟩) 0 0) (KDA.cell w0) (by omega : ¬ db = q))
      have D1 := hid_of (cell_put (i := k) (u := .slice (some ⟨wr.heap.size, 0, none⟩) 0 0) (KDA.cell w1) (by omega : ¬ db = q))
      have D2 := hid_of (cell_put (i := k) (u := .slice (some ⟨wr.heap.size, 0, none⟩) 0 0) (KDA.cell w2) (by omega : ¬ db + 1 = q))
      clear c1 f1 RN KDA KD w0 w1 w2 b0
      generalize ((wr.drewN 1).alloc (Obj.cells (madeCells #[Value.int IntKind.u64 0] 0) 145)).setCell ⟨q, k, none⟩ (.slice (some ⟨wr.heap.size, 0, none⟩) 0 0) = W9 at RS KS B0 D0 D1 D2 ⊢
      go_wp2_with fail
      go_roundw
      case rel => exact ⟨k + 1, by omega, by go_num, KS.out, RS.out, B0.out, D0.out, D1.out, D2.out⟩
      case measure => simp [intOf]; omega
    · obtain rfl : k = N := by omega
      clear b0 RH
      have W0H := hid_of w0
      have W2H := hid_of w2
      go_wp2_with fail
      go_loopw [8, 34] (fun _ i w3 => i = .int .i64 0 ∧ wr = w3) (fun _ _ _ => 0)
      case atStart => exact ⟨rfl, rfl⟩
      case round =>
        obtain ⟨rfl, rfl⟩ := hrel
        go_wp2
        go_ret
        refine ⟨db, db + 1, q + 1, rfl, KH.out, fun w3 K3 u v hu hv => ?_⟩
        exact weight0_calls k yo yc Y db (db + 1) (q + 1) u v w3 (HY.out.kept (KH.out.trans K3)) HP.out (K3.cell W0H.out) (K3.cell W2H.out) hu hv
end Go.Proofs.YtpdppjngbbkbbaaDoor

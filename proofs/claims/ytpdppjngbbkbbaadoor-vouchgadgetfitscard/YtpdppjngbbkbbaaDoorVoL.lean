/- copiesOf. -/
import Derived.Test.YtpdppjngbbkbbaaDoorVoK
namespace Go.Proofs.YtpdppjngbbkbbaaDoor
open Go.RowKit

/-- How many ends of the first k edges that are no loops lie at a node. -/
def endTo (es : List Ed) : Nat → Nat → Int
  | 0, _ => 0
  | k + 1, v => if lp es k then endTo es k v else (endTo es k v + if (edAt es k).f = (v : Int) then 1 else 0) + if (edAt es k).t = (v : Int) then 1 else 0
theorem endTo_succ (es : List Ed) (k v : Nat) : endTo es (k + 1) v = if lp es k then endTo es k v else (endTo es k v + if (edAt es k).f = (v : Int) then 1 else 0) + if (edAt es k).t = (v : Int) then 1 else 0 := rfl
theorem endTo_bd (es : List Ed) (k v : Nat) : 0 ≤ endTo es k v ∧ endTo es k v ≤ (k : Int) := by
  induction k with
  | zero => exact ⟨Int.le_refl _, Int.le_refl _⟩
  | succ k ih =>
    rw [endTo_succ]
    split
    · omega
    · rename_i h
      have : ¬ (edAt es k).f = (edAt es k).t := fun t => h (by unfold lp; rw [beq_iff_eq]; exact t)
      split <;> split <;> omega
theorem two_up (cnt : Nat → Int) (f t v : Nat) (h : ¬ f = t) : (if v = t then cnt t + 1 else if v = f then cnt f + 1 else cnt v) = (cnt v + if (f : Int) = (v : Int) then 1 else 0) + if (t : Int) = (v : Int) then 1 else 0 := by
  by_cases e1 : v = t
  · subst e1
    have h1 : ¬ (f : Int) = (v : Int) := by omega
    rw [if_pos rfl, if_neg h1, if_pos rfl, Int.add_zero]
  · have h1 : ¬ (t : Int) = (v : Int) := by omega
    rw [if_neg e1, if_neg h1, Int.add_zero]
    by_cases e2 : v = f
    · subst e2; rw [if_pos rfl, if_pos rfl]
    · have h2 : ¬ (f : Int) = (v : Int) := by omega
      rw [if_neg e2, if_neg h2, Int.add_zero]
/-- How many copies of a node there are. -/
def cpyOf (es : List Ed) (n : Nat) (b : List Int) (v : Nat) : Int := if zAt b v < endTo es n v then zAt b v else endTo es n v
theorem cpyOf_bd {es : List Ed} {n : Nat} {b : List Int} {N mb : Nat} (hn : n ≤ 4096) (h : BndOk b mb N) {v : Nat} (hv : v < N) : 0 ≤ cpyOf es n b v ∧ cpyOf es n b v ≤ 4096 := by
  have := h.2 v hv
  have := endTo_bd es n v
  unfold cpyOf
  split <;> omega

set_option maxRecDepth 100000 in
set_option linter.unusedSimpArgs false in
set_option maxHeartbeats 4000000 in
theorem copies_calls (N : Nat) (ao : Option Addr) (n cap : Nat) (es : List Ed) (bo : Option Addr) (mb bc : Nat) (b : List Int) (w : World) (h : ERow w ao n cap es) (hJ : JRow w bo mb bc b) (RG : Right N n es) (hB : BndOk b mb N) :
    Calls Tryd.prog 106 #[.agg #[.int .i64 (N : Int), .slice ao n cap], .slice bo mb bc] w fun r w' => ∃ g, r = .returned (.slice (some ⟨g, 0, none⟩) N N) ∧ w.heap.size < g ∧ Kept w w' ∧ IntsAt w' g N (cpyOf es n b) := by
  have hr1 := h.room
  have hm1 := h.most
  have hr2 := hJ.room
  have hm2 := hJ.most
  unfold maxLen at hm1 hm2
  have hn := RG.edges
  have hN := RG.nodes
  have hmk : ∀ w : World, (Instr.makeSlice 25 (.int .i64 (N : Int)) (.int .i64 (N : Int))).run Tryd.prog w = .ok (.slice (some ⟨w.heap.size, 0, none⟩) N N) (w.alloc (.cells (madeCells #[.int .i64 0] N) 3)) :=
    fun w => run_make_row' 25 3 (.int .i64 0) 8 Tryd.underlying25 infoJ0 rfl .i64 .i64 N (by omega) (by omega) w
  have KW : Kept w (w.alloc (Obj.cells #[.int .i64 (N : Int), .slice ao n cap] 24)) := (Kept.refl w).alloc _
  have w0 : (w.alloc (Obj.cells #[.int .i64 (N : Int), .slice ao n cap] 24)).cell? ⟨w.heap.size, 0, none⟩ = some (.int .i64 (N : Int)) := by simp [go_sem]
  have w1 : (w.alloc (Obj.cells #[.int .i64 (N : Int), .slice ao n cap] 24)).cell? ⟨w.heap.size, 1, none⟩ = some (.slice ao n cap) := by simp [go_sem]
  have hzw : (w.alloc (Obj.cells #[.int .i64 (N : Int), .slice ao n cap] 24)).heap.size = w.heap.size + 1 := by simp
  have HE := hid_of h
  have HJ := hid_of hJ
  have RGH := hid_of RG
  have HB := hid_of hB
  obtain rfl : mb = N := hB.1
  clear h hJ RG hB
  go_enter Tryd.func106, Tryd.ntmps106
  go_upto_region 1 with fail
  generalize w.alloc (Obj.cells #[.int .i64 (mb : Int), .slice ao n cap] 24) = W1 at KW w0 w1 hzw ⊢
  have KM : Kept W1 (W1.alloc (.cells (madeCells #[.int .i64 0] mb) 3)) := (Kept.refl W1).alloc _
  have I0 : IntsAt (W1.alloc (.cells (madeCells #[.int .i64 0] mb) 3)) W1.heap.size mb (endTo es 0) := World.rowIs.congr (World.rowIs_made W1 (.int .i64 0) mb 3) (fun i _ => rfl)
  obtain ⟨q, hq⟩ : ∃ q, W1.heap.size = q := ⟨_, rfl⟩
  have hwq : w.heap.size < q := by omega
  have hwq' : w.heap.size ≤ q := by omega
  rw [hq] at I0
  replace w1 := KM.cell w1
  have HK2 := hid_of (KW.trans KM)
  have IH := hid_of I0
  clear hzw
  go_upto_region 2 with fail
  generalize W1.alloc (.cells (madeCells #[.int .i64 0] mb) 3) = W2 at w1 HK2 IH ⊢
  clear hmk KM I0 w0 hq KW
  go_wp2_with fail
  go_loopw [7, 15] (fun _ i wr => ∃ (k : Nat), k ≤ n ∧ i = .int .i64 k ∧ Kept w wr ∧ IntsAt wr q mb (endTo es k)) (fun _ i _ => n - (intOf i).toNat)
  case atStart => exact ⟨0, by omega, rfl, HK2.out, IH.out⟩
  case round =>
    obtain ⟨k, hk, rfl, K, IR⟩ := hrel
    have hnot : ∀ (x : Bool) (w : World), (Op.unary .not (.bool x)).run Tryd.prog w = .ok (.bool (!x)) w := fun _ _ => rfl
    have IRH := hid_of IR
    have KH := hid_of K
    clear IR IH HK2 w1
    by_cases hgo : (k : Int) < (n : Int)
    · obtain ⟨b2, off2, rfl, hc⟩ := (HE.out.kept K).cell (by omega)
      obtain ⟨d1, d2, d3, d4⟩ := hc k (by omega)
      obtain ⟨e1, e2, e3, e4⟩ := RGH.out.ends k (by omega)
      have SU := hid_of (endTo_succ es k)
      have BD := hid_of (endTo_bd es k)
      unfold lp at SU
      generalize endTo es k = cnt at SU BD IRH
      generalize edAt es k = e at d1 d2 d3 d4 e1 e2 e3 e4 SU
      have CL := hid_of (isLoop_calls e)
      obtain ⟨ef, et, ec, ek⟩ := e
      simp only at d1 d2 d3 d4 e1 e2 e3 e4 SU
      obtain ⟨f, rfl⟩ : ∃ f : Nat, ef = (f : Int) := ⟨ef.toNat, by omega⟩
      obtain ⟨t, rfl⟩ : ∃ t : Nat, et = (t : Int) := ⟨et.toNat, by omega⟩
      have hfN : f < mb := by omega
      have htN : t < mb := by omega
      have hqe : ¬ wr.heap.size = q := by have := IRH.out.lt; omega
      obtain ⟨eb, heb⟩ : ∃ eb, wr.heap.size = eb := ⟨_, rfl⟩
      clear hc K
      go_upto_region 5 with fail
      generalize hW : wr.alloc (Obj.cells #[.int .i64 (f : Int), .int .i64 (t : Int), .int .i64 ec, .int .i64 ek] 86) = W3
      obtain ⟨EK, a0, a1, a2, a3, -⟩ := edge_box hW
      rw [heb] at a0 a1 a2 a3 hqe
      have HK3 := hid_of (KH.out.trans EK)
      have I3 := hid_of (IRH.out.kept EK)
      clear d1 d2 d3 d4 EK KH hW IRH heb
      go_wp2_with fail
      refine (CL.out _).mono ?_
      rintro e w4 ⟨rfl, K4⟩
      replace a0 := K4.cell a0
      replace a1 := K4.cell a1
      have HK4 := hid_of (HK3.out.trans K4)
      have I4 := hid_of (I3.out.kept K4)
      clear K4 CL a2 a3 HK3 I3
      by_cases hft : f = t
      · have hq1 : ((f : Int) == (t : Int)) = true := by rw [beq_iff_eq]; omega
        have I5 : Hid (IntsAt w4 q mb (endTo es (k + 1))) := World.rowIs.congr I4.out (fun v _ => by rw [SU.out v, if_pos hq1])
        clear SU BD I4
        go_wp2_with fail
        go_roundw
        case rel => exact ⟨k + 1, by omega, by go_num, HK4.out, I5.out⟩
        case measure => simp [intOf]; omega
      · have hq1 : ((f : Int) == (t : Int)) = false := by rw [beq_eq_false_iff_ne]; omega
        have cf := I4.out.cell hfN
        have ff := World.rowIs.frozen I4.out f
        obtain ⟨x1, x2⟩ := BD.out f
        obtain ⟨y1, y2⟩ := BD.out t
        have WR : IntKind.i64.wrap (cnt f + 1) = cnt f + 1 := wrap_id (by omega) (by omega)
        have WR2 : IntKind.i64.wrap (cnt t + 1) = cnt t + 1 := wrap_id (by omega) (by omega)
        go_upto_region 7 with fail
        generalize hW5 : w4.setCell ⟨q, f, none⟩ (.int .i64 (cnt f + 1)) = W5
        have I5 : IntsAt W5 q mb (fun v => if v = f then cnt f + 1 else cnt v) := by rw [← hW5]; exact I4.out.set f _
        have K5 : Kept w W5 := by rw [← hW5]; exact HK4.out.setCell (p := ⟨q, f, none⟩) hwq' _
        have b0 : W5.cell? ⟨eb, 0, none⟩ = some (.int .i64 (f : Int)) := by rw [← hW5]; exact cell_put a0 hqe
        have b1 : W5.cell? ⟨eb, 1, none⟩ = some (.int .i64 (t : Int)) := by rw [← hW5]; exact cell_put a1 hqe
        have ct := I5.cell htN
        have ht' : ¬ t = f := fun e => hft e.symm
        simp only [ht', if_false] at ct
        have ft := World.rowIs.frozen I5 t
        have I6 : Hid (IntsAt (W5.setCell ⟨q, t, none⟩ (.int .i64 (cnt t + 1))) q mb (endTo es (k + 1))) := (I5.set t (cnt t + 1)).congr (fun v _ => by
          show Value.int .i64 (if v = t then cnt t + 1 else if v = f then cnt f + 1 else cnt v) = _
          rw [two_up cnt f t v hft, SU.out v, if_neg (show ¬ ((f : Int) == (t : Int)) = true by rw [hq1]; decide)])
        have K6 : Hid (Kept w (W5.setCell ⟨q, t, none⟩ (.int .i64 (cnt t + 1)))) := K5.setCell (p := ⟨q, t, none⟩) hwq' _
        clear hW5 I5 K5 cf ff WR a0 a1 I4 HK4 SU BD x1 x2 y1 y2
        go_wp2_with fail
        go_roundw
        case rel => exact ⟨k + 1, by omega, by go_num, K6.out, I6.out⟩
        case measure => simp [intOf]; omega
    · obtain rfl : k = n := by omega
      have I1 : Hid (IntsAt wr q mb (fun v => if v < 0 then cpyOf es k b v else endTo es k v)) := World.rowIs.congr IRH.out (fun v _ => by simp)
      clear K IRH
      go_wp2_with fail
      go_loopw [8, 39] (fun _ i w2 => ∃ (j : Nat), j ≤ mb ∧ i = .int .i64 j ∧ Kept w w2 ∧ IntsAt w2 q mb (fun v => if v < j then cpyOf es k b v else endTo es k v)) (fun _ i _ => mb - (intOf i).toNat)
      case atStart => exact ⟨0, by omega, rfl, KH.out, I1.out⟩
      case round =>
        obtain ⟨j, hj, rfl, K, IR⟩ := hrel
        have IRH := hid_of IR
        have KH2 := hid_of K
        clear IR I1
        by_cases hgo2 : (j : Int) < (mb : Int)
        · obtain ⟨b3, off3, rfl, hc3⟩ := (HJ.out.kept K).at (by omega)
          have d5 := hc3 j (by omega)
          have hjm : j < mb := by omega
          have cj := IRH.out.cell hjm
          simp only [Nat.lt_irrefl, if_false] at cj
          have fj := World.rowIs.frozen IRH.out j
          clear hc3 K
          go_wp2_with fail
          refine Ord.regionZ 12 [(0, 0), (1, 0), (2, 0), (3, 0), (4, 0), (5, 1), (6, 0), (7, 0), (8, 0), (9, 1), (10, 2), (11, 0), (12, 3)] (fun w' => Kept wr w') (by kernel_rfl) (by kernel_rfl) (by kernel_rfl) (by kernel_rfl) (fun _ _ d _ _ h => by cases d <;> exact h) ((Kept.refl _).drewN _) ?_
          repeat
            refine Ord.stepZ rfl (fun Ko hK => ?_)
            simp only [Ord.bodyZ, Ord.body]
            go_simp
            first
              | (refine hK _ _ ?_; clear hK Ko)
              | (refine ⟨(Kept.refl _).drewN _, hK _ _ ?_⟩; clear hK Ko)
              | (refine ⟨_, fun w' hS => (by have c0 := hS.cell cj; simp only [c0, Result.andThen]; rfl), hK _ _ ?_⟩; clear hK Ko)
              | (refine ⟨_, fun w' hS => (by have c0 := hS.cell d5; simp only [c0, Result.andThen]; rfl), hK _ _ ?_⟩; clear hK Ko)
          refine Ord.doneZ ?_
          have KD : Kept wr (wr.drewN 1) := (Kept.refl wr).drewN 1
          have IN : Hid (IntsAt ((wr.drewN 1).setCell ⟨q, j, none⟩ (.int .i64 (cpyOf es k b j))) q mb (fun v => if v < j + 1 then cpyOf es k b v else endTo es k v)) := ((IRH.out.kept KD).set j (cpyOf es k b j)).congr (fun v _ => by
            show Value.int .i64 (if v = j then cpyOf es k b j else if v < j then cpyOf es k b v else endTo es k v) = .int .i64 (if v < j + 1 then cpyOf es k b v else endTo es k v)
            by_cases e1 : v = j
            · subst e1; rw [if_pos rfl, if_pos (by omega)]
            · rw [if_neg e1]
              by_cases e2 : v < j
              · rw [if_pos e2, if_pos (by omega)]
              · rw [if_neg e2, if_neg (by omega)])
          have KN : Hid (Kept w ((wr.drewN 1).setCell ⟨q, j, none⟩ (.int .i64 (cpyOf es k b j)))) := (KH2.out.trans KD).setCell (p := ⟨q, j, none⟩) hwq' _
          unfold cpyOf at IN KN
          clear IRH KH2 cj fj d5
          go_wp2_with fail
          go_roundw
          case rel => exact ⟨j + 1, by omega, by go_num, KN.out, IN.out⟩
          case measure => simp [intOf]; omega
        · obtain rfl : j = mb := by omega
          have IF : Hid (IntsAt wr q j (cpyOf es k b)) := World.rowIs.congr IRH.out (fun v hv => by simp [hv])
          clear K IRH
          go_wp2
          go_ret
          exact ⟨q, rfl, hwq, KH2.out, IF.out⟩
end Go.Proofs.YtpdppjngbbkbbaaDoor

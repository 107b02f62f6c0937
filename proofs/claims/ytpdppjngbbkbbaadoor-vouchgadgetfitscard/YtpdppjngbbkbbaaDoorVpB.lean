/- Many. -/
import Derived.Test.YtpdppjngbbkbbaaDoorVpA
namespace Go.Proofs.YtpdppjngbbkbbaaDoor
open Go.RowKit

theorem CpOk.sm_step {cp : Nat → Int} {N : Nat} (h : CpOk cp N) {v : Nat} (hv : v < N) : 0 ≤ sm cp v ∧ sm cp v + cp v ≤ sm cp N := by
  have aux : ∀ k, v < k → k ≤ N → 0 ≤ sm cp v ∧ sm cp v + cp v ≤ sm cp k := by
    intro k
    induction k with
    | zero => intro t; omega
    | succ k ih =>
      intro t hk
      have hb := (h.sm_bd v (by omega)).1
      rw [sm_succ]
      by_cases e : v = k
      · subst e; omega
      · have := ih (by omega) (by omega)
        have := h k (by omega)
        omega
  exact aux N hv (Nat.le_refl _)
theorem upTo_mem {a x : Int} {k : Nat} {e : Ed} (h : e ∈ upTo a x k) : (a ≤ e.f ∧ e.f < a + (k : Int)) ∧ e.t = x := by
  induction k with
  | zero => simp [upTo] at h
  | succ k ih =>
    simp only [upTo, List.mem_append, List.mem_singleton] at h
    rcases h with h | rfl
    · have := ih h; omega
    · exact ⟨⟨by show a ≤ a + (k : Int); omega, by show a + (k : Int) < a + ((k + 1 : Nat) : Int); omega⟩, rfl⟩
theorem dnTo_mem {a x : Int} {k : Nat} {e : Ed} (h : e ∈ dnTo x a k) : (a ≤ e.t ∧ e.t < a + (k : Int)) ∧ e.f = x := by
  induction k with
  | zero => simp [dnTo] at h
  | succ k ih =>
    simp only [dnTo, List.mem_append, List.mem_singleton] at h
    rcases h with h | rfl
    · have := ih h; omega
    · exact ⟨⟨by show a ≤ a + (k : Int); omega, by show a + (k : Int) < a + ((k + 1 : Nat) : Int); omega⟩, rfl⟩
/-- The gadget's edges end at its nodes. -/
theorem gadTo_mem {cp : Nat → Int} {N n : Nat} {es : List Ed} (h : CpOk cp N) (he : EndsIn es N n) : ∀ k, k ≤ n → ∀ e ∈ gadTo cp N es k, 0 ≤ e.f ∧ e.f < szN cp N es k ∧ 0 ≤ e.t ∧ e.t < szN cp N es k := by
  intro k
  induction k with
  | zero => intro _ e hm; simp [gadTo] at hm
  | succ k ih =>
    intro hk e hm
    rw [gadTo_succ] at hm
    rw [szN_succ]
    obtain ⟨e1, e2, e3, e4⟩ := he k (by omega)
    have i := ih (by omega)
    by_cases hl : lp es k = true
    · rw [if_pos hl] at hm
      have := i e hm
      rw [if_pos hl]; omega
    · rw [if_neg hl] at hm
      rw [if_neg hl]
      have hz : sm cp N ≤ szN cp N es k := by unfold szN; have := (nlTo_bd es k).1; omega
      obtain ⟨a1, a2⟩ := h.sm_step (v := (edAt es k).f.toNat) (by omega)
      obtain ⟨b1, b2⟩ := h.sm_step (v := (edAt es k).t.toNat) (by omega)
      have c1 := h (edAt es k).f.toNat (by omega)
      have c2 := h (edAt es k).t.toNat (by omega)
      have hz0 : 0 ≤ szN cp N es k := by omega
      rcases List.mem_append.1 hm with hm | hm
      · have := i e hm; omega
      · unfold gadOf at hm
        rcases List.mem_append.1 hm with hm | hm
        · rcases List.mem_append.1 hm with hm | hm
          · obtain rfl := List.mem_singleton.1 hm
            simp only; omega
          · have := upTo_mem hm; omega
        · have := dnTo_mem hm; omega

/-- How many of the first k edges end at a node. -/
def takTo (es : List Ed) (m : List Int) : Nat → Nat → Int
  | 0, _ => 0
  | k + 1, v => (takTo es m k v + if frm es m k = (v : Int) then 1 else 0) + if tto es m k = (v : Int) then 1 else 0
theorem takTo_succ (es : List Ed) (m : List Int) (k v : Nat) : takTo es m (k + 1) v = (takTo es m k v + if frm es m k = (v : Int) then 1 else 0) + if tto es m k = (v : Int) then 1 else 0 := rfl
theorem takTo_bd (es : List Ed) (m : List Int) (k v : Nat) : 0 ≤ takTo es m k v ∧ takTo es m k v ≤ 2 * (k : Int) := by
  induction k with
  | zero => exact ⟨Int.le_refl _, Int.le_refl _⟩
  | succ k ih =>
    rw [takTo_succ]
    split <;> split <;> omega
/-- Edges, none a loop, with so many at each node at most. -/
def TakOk (es : List Ed) (n N : Nat) (b m : List Int) (lm : Nat) : Prop := RiseTo m (n : Int) lm ∧ (∀ j, j < lm → frm es m j ≠ tto es m j) ∧ ∀ v, v < N → takTo es m lm v ≤ zAt b v
/-- Edges with a set of the gadget's nodes that proves that no more can be taken. -/
def ManOk (es : List Ed) (n N : Nat) (b m : List Int) (lm : Nat) (x : List Int) (lx : Nat) : Prop :=
  TakOk es n N b m lm ∧ RiseTo x (szN (cpyOf es n b) N es n) lx ∧ 2 * ((lm : Int) + nlTo es n) = szN (cpyOf es n b) N es n + (lx : Int) - oddTo (gadTo (cpyOf es n b) N es n) (inTo x lx) (szN (cpyOf es n b) N es n).toNat (szN (cpyOf es n b) N es n).toNat

set_option maxRecDepth 100000 in
set_option linter.unusedSimpArgs false in
set_option maxHeartbeats 4000000 in
theorem manyLook_calls (gb bb mb' xb rb : Nat) (bo : Option Addr) (mb bc : Nat) (b : List Int) (mo : Option Addr) (lm mc : Nat) (m : List Int) (xo : Option Addr) (lx xc : Nat) (x : List Int) (N : Nat) (ao : Option Addr) (n cap : Nat) (es : List Ed) (w : World) (hG : GBox w gb (N : Int) ao n cap) (hb : w.cell? ⟨bb, 0, none⟩ = some (.slice bo mb bc)) (hm : w.cell? ⟨mb', 0, none⟩ = some (.slice mo lm mc)) (hx : w.cell? ⟨xb, 0, none⟩ = some (.slice xo lx xc)) (r0 : w.cell? ⟨rb, 0, none⟩ = some (.int .i64 0)) (rf : w.frozen? ⟨rb, 0, none⟩ = false) (h : ERow w ao n cap es) (hB : JRow w bo mb bc b) (hJ : JRow w mo lm mc m) (hX : JRow w xo lx xc x) (RG : Right N n es) :
    Calls Tryd.prog 77 #[.pointer (some ⟨gb, 0, none⟩), .pointer (some ⟨bb, 0, none⟩), .pointer (some ⟨mb', 0, none⟩), .pointer (some ⟨xb, 0, none⟩), .pointer (some ⟨rb, 0, none⟩)] w fun e w' =>
      (¬ BndOk b mb N ∧ e = .panicked [{ v := .iface 140 (.agg #[.int .i64 130]), recovered := false }] ∧ Kept w w') ∨ (BndOk b mb N ∧ ¬ Fits (cpyOf es n b) N es n ∧ e = .panicked [{ v := .iface 140 (.agg #[.int .i64 3]), recovered := false }] ∧ Kept w w') ∨
      (BndOk b mb N ∧ Fits (cpyOf es n b) N es n ∧ ManOk es n N b m lm x lx ∧ e = .returned (.tuple #[]) ∧ ∃ wx, Kept w wx ∧ w' = wx.setCell ⟨rb, 0, none⟩ (.int .i64 (lm : Int))) ∨
      (BndOk b mb N ∧ Fits (cpyOf es n b) N es n ∧ ¬ ManOk es n N b m lm x lx ∧ e = .panicked [{ v := .iface 140 (.agg #[.int .i64 221]), recovered := false }] ∧ Kept w w') := by
  obtain ⟨g0, g1⟩ := hG
  have hN := RG.nodes
  have hn := RG.edges
  have hr1 := h.room
  have hm1 := h.most
  have hr2 := hJ.room
  have hm2 := hJ.most
  have hr3 := hX.room
  have hm3 := hX.most
  have hr4 := hB.room
  have hm4 := hB.most
  unfold maxLen at hm1 hm2 hm3 hm4
  have hmk : ∀ w : World, (Instr.makeSlice 25 (.int .i64 (N : Int)) (.int .i64 (N : Int))).run Tryd.prog w = .ok (.slice (some ⟨w.heap.size, 0, none⟩) N N) (w.alloc (.cells (madeCells #[.int .i64 0] N) 3)) :=
    fun w => run_make_row' 25 3 (.int .i64 0) 8 Tryd.underlying25 infoJ0 rfl .i64 .i64 N (by omega) (by omega) w
  have C := hid_of (gad_calls N ao n cap es bo mb bc b w h hB RG)
  have HE := hid_of h
  have HB := hid_of hB
  have HJ := hid_of hJ
  have HX := hid_of hX
  have RGH := hid_of RG
  have HR0 := hid_of r0
  have HRF := hid_of rf
  have HMB := hid_of hm
  have HXB := hid_of hx
  have HBB := hid_of hb
  have HG0 := hid_of g0
  have HG1 := hid_of g1
  clear h hB hJ hX RG r0 rf
  go_enter Tryd.func77, Tryd.ntmps77
  go_wp2_with fail
  refine C.out.mono ?_
  rintro e wa ⟨K1, ⟨ok, rfl⟩ | ⟨ok, fit, rfl⟩ | ⟨ok, fit, ao', len', cap', rfl, E1⟩⟩
  · have HK := hid_of K1
    clear K1 C g0 g1 hb hm hx
    go_wp2
    exact ⟨rfl, .inl ⟨ok, rfl, HK.out⟩⟩
  · have HK := hid_of K1
    clear K1 C g0 g1 hb hm hx
    go_wp2
    exact ⟨rfl, .inr (.inl ⟨ok, fit, rfl, HK.out⟩)⟩
  have hcp : CpOk (cpyOf es n b) N := fun v hv => cpyOf_bd hn ok hv
  have hgl := gadTo_len hcp RGH.out.ends n (Nat.le_refl _)
  have hgm := gadTo_mem hcp RGH.out.ends n (Nat.le_refl _)
  have hgs := szN_bd (es := es) hcp hN (k := n) hn
  obtain ⟨gN, hgN⟩ : ∃ gN : Nat, szN (cpyOf es n b) N es n = (gN : Int) := ⟨(szN (cpyOf es n b) N es n).toNat, by omega⟩
  have gN4 : gN ≤ 1024 := by have := fit.1; omega
  have gL4 : (gadTo (cpyOf es n b) N es n).length ≤ 4096 := by have := fit.2; omega
  have el := E1.len
  have l4 : len' ≤ 4096 := by omega
  have MDEF : Hid (ManOk es n N b m lm x lx ↔ TakOk es n N b m lm ∧ RiseTo x (gN : Int) lx ∧ 2 * ((lm : Int) + nlTo es n) = (gN : Int) + (lx : Int) - oddTo (gadTo (cpyOf es n b) N es n) (inTo x lx) gN gN) := by
    show ManOk es n N b m lm x lx ↔ _
    unfold ManOk; rw [hgN, Int.toNat_natCast]
  rw [hgN] at hgm ⊢
  have BFH : Hid (BndOk b mb N ∧ Fits (cpyOf es n b) N es n) := ⟨ok, fit⟩
  obtain ⟨gl, hgl2⟩ : ∃ gl, gadTo (cpyOf es n b) N es n = gl := ⟨_, rfl⟩
  rw [hgl2] at E1 hgm MDEF
  have EH := hid_of E1
  have GMH := hid_of hgm
  obtain ⟨hmN, hbv⟩ := ok
  have HBV := hid_of hbv
  clear hcp hgl hgm hgs hgN fit el gL4 hgl2 E1 hbv C
  obtain rfl : mb = N := hmN
  -- the gadget's box
  obtain ⟨db, hdb⟩ : ∃ db, wa.heap.size = db := ⟨_, rfl⟩
  have KA : Kept wa (wa.alloc (Obj.cells #[.int .i64 (gN : Int), .slice ao' len' cap'] 24)) := (Kept.refl wa).alloc _
  have x0 : (wa.alloc (Obj.cells #[.int .i64 (gN : Int), .slice ao' len' cap'] 24)).cell? ⟨db, 0, none⟩ = some (.int .i64 (gN : Int)) := by simp [go_sem, ← hdb]
  have x1 : (wa.alloc (Obj.cells #[.int .i64 (gN : Int), .slice ao' len' cap'] 24)).cell? ⟨db, 1, none⟩ = some (.slice ao' len' cap') := by simp [go_sem, ← hdb]
  go_upto_region 1 with fail
  generalize wa.alloc (Obj.cells #[.int .i64 (gN : Int), .slice ao' len' cap'] 24) = W1 at KA x0 x1 ⊢
  have HK := hid_of (K1.trans KA)
  have EA := hid_of (EH.out.kept KA)
  have X0 := hid_of x0
  have X1 := hid_of x1
  replace g0 := HK.out.cell g0
  replace g1 := HK.out.cell g1
  replace hm := HK.out.cell hm
  clear K1 KA EH hdb hb hx
  go_wp2_with fail
  refine (mustRise_calls mo lm mc m (n : Int) W1 (HJ.out.kept HK.out)).mono ?_
  rintro e wb ⟨K2, ⟨ris, rfl⟩ | ⟨ris, rfl⟩⟩
  rotate_left
  · have HK2 := hid_of (HK.out.trans K2)
    clear hm g0 g1 K2 x0 x1
    go_wp2
    exact ⟨rfl, .inr (.inr (.inr ⟨BFH.out.1, BFH.out.2, fun t => ris t.1.1, rfl, HK2.out⟩))⟩
  replace g0 := K2.cell g0
  replace g1 := K2.cell g1
  replace hm := K2.cell hm
  have RIS := hid_of ris
  have lmn : lm ≤ 4096 := by have := ris.len_le; omega
  have HK2 := hid_of (HK.out.trans K2)
  have EB := hid_of (EA.out.kept K2)
  have X0b := hid_of (K2.cell X0.out)
  have X1b := hid_of (K2.cell X1.out)
  clear K2 ris EA X0 X1 x0 x1 HK
  have KM : Kept wb (wb.alloc (.cells (madeCells #[.int .i64 0] mb) 3)) := (Kept.refl wb).alloc _
  have I0 : IntsAt (wb.alloc (.cells (madeCells #[.int .i64 0] mb) 3)) wb.heap.size mb (takTo es m 0) := World.rowIs.congr (World.rowIs_made wb (.int .i64 0) mb 3) (fun i _ => rfl)
  obtain ⟨q, hq⟩ : ∃ q, wb.heap.size = q := ⟨_, rfl⟩
  have hwq : wb.heap.size ≤ q := by omega
  rw [hq] at I0
  replace hm := KM.cell hm
  have KMH := hid_of KM
  have IH := hid_of I0
  go_upto_region 3 with fail
  generalize wb.alloc (.cells (madeCells #[.int .i64 0] mb) 3) = W2 at hm KMH IH ⊢
  have HWQ := hid_of hwq
  clear hmk KM I0 g0 g1 hq
  go_wp2_with fail
  go_loopw [8, 9, 26] (fun _ _ i wr => ∃ (k : Nat), k ≤ lm ∧ i = .int .i64 k ∧ Kept wb wr ∧ IntsAt wr q mb (takTo es m k) ∧ ∀ j, j < k → frm es m j ≠ tto es m j) (fun _ _ i _ => lm - (intOf i).toNat)
  case atStart => exact ⟨0, by omega, rfl, KMH.out, IH.out, fun i hi => by omega⟩
  case round =>
    obtain ⟨k, hk, rfl, K, IR, hno⟩ := hrel
    have hnot : ∀ (x : Bool) (w : World), (Op.unary .not (.bool x)).run Tryd.prog w = .ok (.bool (!x)) w := fun _ _ => rfl
    have IRH := hid_of IR
    have KH := hid_of K
    have HNO := hid_of hno
    have g1 := K.cell (HK2.out.cell HG1.out)
    clear IR IH KMH hno hm
    by_cases hgo : (k : Int) < (lm : Int)
    · obtain ⟨b3, off3, rfl, hc3⟩ := (HJ.out.kept (HK2.out.trans K)).at (by omega)
      have d5 := hc3 k (by omega)
      obtain ⟨y1, y2⟩ := RIS.out.rng (j := k) (by omega)
      obtain ⟨y, hy⟩ : ∃ y : Nat, zAt m k = (y : Int) := ⟨(zAt m k).toNat, by omega⟩
      have hyn : y < n := by omega
      obtain ⟨b2, off2, rfl, hc⟩ := (HE.out.kept (HK2.out.trans K)).cell (by omega)
      obtain ⟨d1, d2, d3, d4⟩ := hc y hyn
      obtain ⟨e1, e2, e3, e4⟩ := RGH.out.ends y hyn
      have FF : Hid (frm es m k = (edAt es y).f) := by
        show frm es m k = _
        unfold frm
        rw [hy, Int.toNat_natCast]
      have TT : Hid (tto es m k = (edAt es y).t) := by
        show tto es m k = _
        unfold tto
        rw [hy, Int.toNat_natCast]
      rw [hy] at d5 y2
      have SU := hid_of (takTo_succ es m k)
      have BD := hid_of (takTo_bd es m k)
      have HIT : Hid (frm es m k ≠ tto es m k → ∀ j, j < k + 1 → frm es m j ≠ tto es m j) := fun hb i hi => by
        by_cases e : i = k
        · subst e; exact hb
        · exact HNO.out i (by omega)
      have MISS : Hid (frm es m k = tto es m k → ¬ ManOk es n mb b m lm x lx) := fun hb t => t.1.2.1 k (by omega) hb
      rw [FF.out, TT.out] at SU HIT MISS
      generalize takTo es m k = cnt at SU BD IRH
      generalize edAt es y = e at d1 d2 d3 d4 e1 e2 e3 e4 SU HIT MISS
      have CL := hid_of (isLoop_calls e)
      obtain ⟨ef, et, ec, ek⟩ := e
      simp only at d1 d2 d3 d4 e1 e2 e3 e4 SU HIT MISS
      obtain ⟨f, rfl⟩ : ∃ f : Nat, ef = (f : Int) := ⟨ef.toNat, by omega⟩
      obtain ⟨t, rfl⟩ : ∃ t : Nat, et = (t : Int) := ⟨et.toNat, by omega⟩
      have hfN : f < mb := by omega
      have htN : t < mb := by omega
      have hqe : ¬ wr.heap.size = q := by have := IRH.out.lt; omega
      obtain ⟨eb, heb⟩ : ∃ eb, wr.heap.size = eb := ⟨_, rfl⟩
      clear hc hc3 K hy y1 FF TT HNO
      go_upto_region 7 with fail
      generalize hW : wr.alloc (Obj.cells #[.int .i64 (f : Int), .int .i64 (t : Int), .int .i64 ec, .int .i64 ek] 86) = W3
      obtain ⟨EK, a0, a1, a2, a3, -⟩ := edge_box hW
      rw [heb] at a0 a1 a2 a3 hqe
      have HK3 := hid_of (KH.out.trans EK)
      have I3 := hid_of (IRH.out.kept EK)
      clear d1 d2 d3 d4 EK KH hW IRH heb g1
      go_wp2_with fail
      refine (CL.out _).mono ?_
      rintro e w4 ⟨rfl, K4⟩
      replace a0 := K4.cell a0
      replace a1 := K4.cell a1
      have HK4 := hid_of (HK3.out.trans K4)
      have I4 := hid_of (I3.out.kept K4)
      clear K4 CL a2 a3 HK3 I3
      by_cases hft : f = t
      · have hq1 : ((f : Int) == (t : Int)) = true := by rw [beq_iff_eq]; omega
        have P := hid_of (MISS.out (by rw [hft]))
        clear HIT MISS SU BD I4 a0 a1
        go_wp2_with (go_at_call 51; refine (must_no _).mono ?_; rintro e w' ⟨rfl, rfl⟩)
        exact ⟨rfl, .inr (.inr (.inr ⟨BFH.out.1, BFH.out.2, P.out, rfl, HK2.out.trans HK4.out⟩))⟩
      · have hq1 : ((f : Int) == (t : Int)) = false := by rw [beq_eq_false_iff_ne]; omega
        have P := hid_of (HIT.out (by omega))
        have cf := I4.out.cell hfN
        have ff := World.rowIs.frozen I4.out f
        obtain ⟨x1, x2⟩ := BD.out f
        obtain ⟨y1, y2⟩ := BD.out t
        have WR : IntKind.i64.wrap (cnt f + 1) = cnt f + 1 := wrap_id (by omega) (by omega)
        have WR2 : IntKind.i64.wrap (cnt t + 1) = cnt t + 1 := wrap_id (by omega) (by omega)
        clear HIT MISS
        go_upto_region 9 with (go_at_call 51; refine (must_ok _).mono ?_; rintro e w' ⟨rfl, rfl⟩)
        generalize hW5 : w4.setCell ⟨q, f, none⟩ (.int .i64 (cnt f + 1)) = W5
        have I5 : IntsAt W5 q mb (fun v => if v = f then cnt f + 1 else cnt v) := by rw [← hW5]; exact I4.out.set f _
        have K5 : Kept wb W5 := by rw [← hW5]; exact HK4.out.setCell (p := ⟨q, f, none⟩) HWQ.out _
        have b0 : W5.cell? ⟨eb, 0, none⟩ = some (.int .i64 (f : Int)) := by rw [← hW5]; exact cell_put a0 hqe
        have b1 : W5.cell? ⟨eb, 1, none⟩ = some (.int .i64 (t : Int)) := by rw [← hW5]; exact cell_put a1 hqe
        have ct := I5.cell htN
        have ht' : ¬ t = f := fun e => hft e.symm
        simp only [ht', if_false] at ct
        have ft := World.rowIs.frozen I5 t
        have I6 : Hid (IntsAt (W5.setCell ⟨q, t, none⟩ (.int .i64 (cnt t + 1))) q mb (takTo es m (k + 1))) := (I5.set t (cnt t + 1)).congr (fun v _ => by
          show Value.int .i64 (if v = t then cnt t + 1 else if v = f then cnt f + 1 else cnt v) = _
          rw [two_up cnt f t v hft, SU.out v])
        have K6 : Hid (Kept wb (W5.setCell ⟨q, t, none⟩ (.int .i64 (cnt t + 1)))) := K5.setCell (p := ⟨q, t, none⟩) HWQ.out _
        clear hW5 I5 K5 cf ff WR a0 a1 I4 HK4 SU BD x1 x2 y1 y2
        go_wp2_with fail
        go_roundw
        case rel => exact ⟨k + 1, by omega, by go_num, K6.out, I6.out, P.out⟩
        case measure => simp [intOf]; omega
    · obtain rfl : k = lm := by omega
      have hb := K.cell (HK2.out.cell HBB.out)
      clear K g1
      go_wp2_with fail
      go_loopw [10, 11, 56] (fun _ _ i w2 => ∃ (j : Nat), j ≤ mb ∧ i = .int .i64 j ∧ wr = w2 ∧ ∀ v, v < j → takTo es m k v ≤ zAt b v) (fun _ _ i _ => mb - (intOf i).toNat)
      case atStart => exact ⟨0, by omega, rfl, rfl, fun i hi => by omega⟩
      case round =>
        obtain ⟨j, hj, rfl, rfl, hlt⟩ := hrel
        have HLT := hid_of hlt
        clear hlt hb
        by_cases hgo2 : (j : Int) < (mb : Int)
        · obtain ⟨b5, off5, rfl, hc5⟩ := (HB.out.kept (HK2.out.trans KH.out)).at (by omega)
          have d6 := hc5 j (by omega)
          have hjm : j < mb := by omega
          have cj := IRH.out.cell hjm
          have HIT : Hid (takTo es m k j ≤ zAt b j → ∀ v, v < j + 1 → takTo es m k v ≤ zAt b v) := fun hb i hi => by
            by_cases e : i = j
            · subst e; exact hb
            · exact HLT.out i (by omega)
          have MISS : Hid (¬ takTo es m k j ≤ zAt b j → ¬ ManOk es n mb b m k x lx) := fun hb t => hb (t.1.2.2 j hjm)
          generalize takTo es m k j = tk at cj HIT MISS
          generalize zAt b j = bv at d6 HIT MISS
          clear hc5
          by_cases hle : tk ≤ bv
          · have P := hid_of (HIT.out hle)
            have qd : decide (tk ≤ bv) = true := decide_eq_true hle
            clear HIT MISS
            go_wp2_with (go_at_call 51; refine (must_ok _).mono ?_; rintro e w' ⟨rfl, rfl⟩)
            go_roundw
            case rel => exact ⟨j + 1, by omega, by go_num, by trivial, P.out⟩
            case measure => simp [intOf]; omega
          · have P := hid_of (MISS.out hle)
            have qd : decide (tk ≤ bv) = false := decide_eq_false hle
            clear HIT MISS
            go_wp2_with (go_at_call 51; refine (must_no _).mono ?_; rintro e w' ⟨rfl, rfl⟩)
            exact ⟨rfl, .inr (.inr (.inr ⟨BFH.out.1, BFH.out.2, P.out, rfl, HK2.out.trans KH.out⟩))⟩
        · obtain rfl : j = mb := by omega
          have TAK : Hid (TakOk es n j b m k) := ⟨RIS.out, HNO.out, HLT.out⟩
          have hx := KH.out.cell (HK2.out.cell HXB.out)
          have x0 := KH.out.cell X0b.out
          have HKr := hid_of (HK2.out.trans KH.out)
          clear HNO HLT
          go_wp2_with fail
          refine (mustRise_calls xo lx xc x (gN : Int) wr (HX.out.kept HKr.out)).mono ?_
          rintro e wc ⟨K7, ⟨ris, rfl⟩ | ⟨ris, rfl⟩⟩
          rotate_left
          · have HK7 := hid_of (HKr.out.trans K7)
            clear hx x0 K7
            go_wp2
            exact ⟨rfl, .inr (.inr (.inr ⟨BFH.out.1, BFH.out.2, fun t => ris (MDEF.out.1 t).2.1, rfl, HK7.out⟩))⟩
          have HK7 := hid_of (HKr.out.trans K7)
          have KB7 := hid_of (KH.out.trans K7)
          have RISX := hid_of ris
          replace hx := K7.cell hx
          replace x0 := K7.cell x0
          have x1 := KB7.out.cell X1b.out
          have hm := HK7.out.cell HMB.out
          have g0 := HK7.out.cell HG0.out
          have g1 := HK7.out.cell HG1.out
          have lxb : lx ≤ 1024 := by have := ris.len_le; omega
          have EC := hid_of (EB.out.kept KB7.out)
          clear K7 HKr KH IRH ris
          have MB := hid_of (fun w' (K : Kept wc w') => members_calls xo lx xc x gN gN4 w' (HX.out.kept (HK7.out.trans K)) (fun j hj => RISX.out.rng hj))
          have OC := hid_of (fun w' q (K : Kept wc w') (B : BlsAt w' q gN (inTo x lx)) => odd_calls gN gN4 ao' len' cap' gl q (inTo x lx) w' (EC.out.kept K) l4 GMH B)
          have WC := hid_of (fun w' (K : Kept wc w') => without_calls (j : Int) j ao n cap es w' (HE.out.kept (HK7.out.trans K)) RGH.out)
          obtain ⟨o1, o2⟩ := oddTo_bd gl (inTo x lx) gN gN
          obtain ⟨u1, u2⟩ := nlTo_bd es n
          obtain ⟨O, hO⟩ : ∃ O, oddTo gl (inTo x lx) gN gN = O := ⟨_, rfl⟩
          obtain ⟨wl, hwl⟩ : ∃ wl, nlTo es n = wl := ⟨_, rfl⟩
          rw [hO] at OC o1 o2 MDEF
          rw [hwl] at WC u1 u2 MDEF
          have WR1 : IntKind.i64.wrap (2 * IntKind.i64.wrap ((k : Int) + wl)) = 2 * ((k : Int) + wl) := by
            rw [wrap_id (x := (k : Int) + wl) (by omega) (by omega), wrap_id (by omega) (by omega)]
          have WR2 : IntKind.i64.wrap (IntKind.i64.wrap ((gN : Int) + (lx : Int)) - O) = (gN : Int) + (lx : Int) - O := by
            rw [wrap_id (x := (gN : Int) + (lx : Int)) (by omega) (by omega), wrap_id (by omega) (by omega)]
          clear hO hwl
          go_wp2_with fail
          refine Ord.region [(0, 1), (1, 1), (2, 0), (3, 1), (4, 2), (5, 2), (6, 0)] (fun w' => Kept wc w') (by kernel_rfl) (by kernel_rfl) (by kernel_rfl) (by kernel_rfl) (fun _ _ d _ _ h => by cases d <;> exact h) ((Kept.refl _).drewN _) ?_
          repeat
            refine Ord.step rfl (fun Ko hK => ?_)
            simp only [Ord.body]
            go_simp
            first
              | (refine hK _ _ ?_; clear hK Ko)
              | (refine ⟨_, fun w' hS => (by have c0 := hS.cell hx; have c1 := hS.cell x0; have c2 := hS.cell x1; simp only [c0, c1, c2, Result.andThen]; rfl), hK _ _ ?_⟩; clear hK Ko)
              | (go_at_call 52; refine (MB.out _ ((Kept.refl _).drewN _)).mono ?_; rintro e w5 ⟨q1, rfl, hq1, K5, B5⟩; refine ⟨((Kept.refl _).drewN _).trans K5, hK _ _ ?_⟩; clear hK Ko)
              | (go_at_call 64; refine (OC.out _ q1 (((Kept.refl _).drewN _).trans K5) B5).mono ?_; rintro e w6 ⟨rfl, K6⟩; refine ⟨(((Kept.refl _).drewN _).trans K5).trans K6, hK _ _ ?_⟩; clear hK Ko)
          refine Ord.done ?_
          have KN := hid_of ((((Kept.refl wc).drewN 1).trans K5).trans K6)
          clear K5 K6 B5 MB OC
          replace hm := KN.out.cell hm
          replace g0 := KN.out.cell g0
          replace g1 := KN.out.cell g1
          replace hx := KN.out.cell hx
          replace x0 := KN.out.cell x0
          clear x1
          have HM6 := hid_of hm
          have W6 := hid_of (fun w' (K : Kept w6 w') => WC.out w' (KN.out.trans K))
          clear WC
          by_cases he : 2 * ((k : Int) + wl) = (gN : Int) + (lx : Int) - O
          · have q : (2 * ((k : Int) + wl) == (gN : Int) + (lx : Int) - O) = true := by rw [beq_iff_eq]; exact he
            have P := hid_of (MDEF.out.2 ⟨TAK.out, RISX.out, he⟩)
            clear he o1 o2 u1 u2
            go_wp2_with fail
            refine Ord.region [(0, 1), (1, 0), (2, 1), (6, 0), (7, 1), (8, 1), (9, 0), (10, 0), (11, 0), (12, 0), (3, 2), (4, 0), (5, 0), (13, 0), (14, 2)] (fun w' => Kept w6 w') (by kernel_rfl) (by kernel_rfl) (by kernel_rfl) (by kernel_rfl) (fun _ _ d _ _ h => by cases d <;> exact h) ((Kept.refl _).drewN _) ?_
            repeat
              refine Ord.step rfl (fun Ko hK => ?_)
              simp only [Ord.body]
              go_simp
              first
                | (refine hK _ _ ?_; clear hK Ko)
                | (refine ⟨_, fun w' hS => (by have c0 := hS.cell hm; have c1 := hS.cell g0; have c2 := hS.cell g1; have c3 := hS.cell hx; have c4 := hS.cell x0; simp only [c0, c1, c2, c3, c4, Result.andThen]; rfl), hK _ _ ?_⟩; clear hK Ko)
                | (go_at_call 78; refine (W6.out _ ((Kept.refl _).drewN _)).mono ?_; rintro e w7 ⟨rfl, K7⟩; refine ⟨((Kept.refl _).drewN _).trans K7, hK _ _ ?_⟩; clear hK Ko)
                | (go_at_call 51; refine (must_ok _).mono ?_; rintro e w8 ⟨rfl, rfl⟩; refine ⟨((Kept.refl _).drewN _).trans K7, hK _ _ ?_⟩; clear hK Ko)
                | ((simp only [WR1, WR2, q]))
            refine Ord.done ?_
            have K67 : Kept w6 w7 := ((Kept.refl _).drewN 1).trans K7
            have hm2 := K67.cell HM6.out
            have KF := hid_of (HK7.out.trans (KN.out.trans K67))
            have r1 := KF.out.cell HR0.out
            have rf1 := (Below.frozen (p := ⟨rb, 0, none⟩) KF.out (lt_cell HR0.out)).trans HRF.out
            clear K7 K67 hm g0 g1 hx x0 KN W6
            go_wp2
            exact bodyPost_end (v := .tuple #[]) (by simp [results, Tryd.results77]) rfl (.inr (.inr (.inl ⟨BFH.out.1, BFH.out.2, P.out, rfl, w7, KF.out, rfl⟩)))
          · have q : (2 * ((k : Int) + wl) == (gN : Int) + (lx : Int) - O) = false := by rw [beq_eq_false_iff_ne]; exact he
            have P : Hid (¬ ManOk es n j b m k x lx) := fun t => he (MDEF.out.1 t).2.2
            clear he o1 o2 u1 u2
            go_wp2_with fail
            refine Ord.region [(0, 1), (1, 0), (2, 1), (6, 0), (7, 1), (8, 1), (9, 0), (10, 0), (11, 0), (12, 0), (3, 2), (4, 0), (5, 0), (13, 0), (14, 2)] (fun w' => Kept w6 w') (by kernel_rfl) (by kernel_rfl) (by kernel_rfl) (by kernel_rfl) (fun _ _ d _ _ h => by cases d <;> exact h) ((Kept.refl _).drewN _) ?_
            repeat
              refine Ord.step rfl (fun Ko hK => ?_)
              simp only [Ord.body]
              go_simp
              first
                | (refine hK _ _ ?_; clear hK Ko)
                | (refine ⟨_, fun w' hS => (by have c0 := hS.cell hm; have c1 := hS.cell g0; have c2 := hS.cell g1; have c3 := hS.cell hx; have c4 := hS.cell x0; simp only [c0, c1, c2, c3, c4, Result.andThen]; rfl), hK _ _ ?_⟩; clear hK Ko)
                | (go_at_call 78; refine (W6.out _ ((Kept.refl _).drewN _)).mono ?_; rintro e w7 ⟨rfl, K7⟩; refine ⟨((Kept.refl _).drewN _).trans K7, hK _ _ ?_⟩; clear hK Ko)
                | (go_at_call 51; refine (must_no _).mono ?_; rintro e w8 ⟨rfl, rfl⟩)
                | ((simp only [WR1, WR2, q]))
            go_simp
            exact ⟨rfl, .inr (.inr (.inr ⟨BFH.out.1, BFH.out.2, P.out, rfl, HK7.out.trans (KN.out.trans (((Kept.refl _).drewN 1).trans K7))⟩))⟩

open Classical in
/-- What Many answers. -/
noncomputable def manAns (nodes : Int) (es : List Ed) (n : Nat) (b : List Int) (mb : Nat) (m : List Int) (lm : Nat) (x : List Int) (lx : Nat) : Int × Int :=
  if (faultOf nodes es).1 ≠ 0 then (0, (faultOf nodes es).1) else if ¬ BndOk b mb nodes.toNat then (0, 130) else if ¬ Fits (cpyOf es n b) nodes.toNat es n then (0, 3) else if ManOk es n nodes.toNat b m lm x lx then ((lm : Int), 0) else (0, 221)

theorem many_calls (nodes : Int) (ao : Option Addr) (n cap : Nat) (es : List Ed) (bo : Option Addr) (mb bc : Nat) (b : List Int) (mo : Option Addr) (lm mc : Nat) (m : List Int) (xo : Option Addr) (lx xc : Nat) (x : List Int) (w : World) (h : ERow w ao n cap es) (hB : JRow w bo mb bc b) (hJ : JRow w mo lm mc m) (hX : JRow w xo lx xc x) (v code : Int) (hans : Hid (manAns nodes es n b mb m lm x lx = (v, code))) :
    Calls Tryd.prog 32 #[.agg #[.int .i64 nodes, .slice ao n cap], .slice bo mb bc, .slice mo lm mc, .slice xo lx xc] w fun e w' => e = .returned (.tuple #[.int .i64 v, .int .i64 code]) ∧ Kept w w' := by
  have ha := hans.out
  unfold manAns at ha
  refine many_wrap nodes ao n cap es bo mb bc mo lm mc xo lx xc w h v code (fun hc w1 K G a1 a2 a3 r0 rf => ?_) (fun hne => ?_) (fun hc => ?_)
  · rw [if_neg (by simp [hc])] at ha
    obtain ⟨N, rfl, RG⟩ := right_of (fault_zero hc)
    rw [← h.len] at RG
    rw [Int.toNat_natCast] at ha
    refine (manyLook_calls w.heap.size (w.heap.size + 1) (w.heap.size + 2) (w.heap.size + 3) (w.heap.size + 4) bo mb bc b mo lm mc m xo lx xc x N ao n cap es w1 G a1 a2 a3 r0 rf (h.kept K) (hB.kept K) (hJ.kept K) (hX.kept K) RG).mono fun e w2 hp => ?_
    rcases hp with ⟨ok, h1, h2⟩ | ⟨ok, fit, h1, h2⟩ | ⟨ok, fit, man, h1, wx, Kx, h2⟩ | ⟨ok, fit, man, h1, h2⟩
    · rw [if_pos ok] at ha
      obtain ⟨rfl, rfl⟩ := Prod.mk.inj ha
      exact .inr ⟨by decide, rfl, h1, h2⟩
    · rw [if_neg (fun t => t ok), if_pos fit] at ha
      obtain ⟨rfl, rfl⟩ := Prod.mk.inj ha
      exact .inr ⟨by decide, rfl, h1, h2⟩
    · rw [if_neg (fun t => t ok), if_neg (fun t => t fit), if_pos man] at ha
      obtain ⟨rfl, rfl⟩ := Prod.mk.inj ha
      exact .inl ⟨rfl, h1, wx, Kx, h2⟩
    · rw [if_neg (fun t => t ok), if_neg (fun t => t fit), if_neg man] at ha
      obtain ⟨rfl, rfl⟩ := Prod.mk.inj ha
      exact .inr ⟨by decide, rfl, h1, h2⟩
  · split at ha
    · exact (Prod.mk.inj ha).1.symm
    · split at ha
      · exact (Prod.mk.inj ha).1.symm
      · split at ha
        · exact (Prod.mk.inj ha).1.symm
        · split at ha
          · exact absurd (Prod.mk.inj ha).2.symm hne
          · exact (Prod.mk.inj ha).1.symm
  · rw [if_pos hc] at ha
    obtain ⟨rfl, rfl⟩ := Prod.mk.inj ha
    exact ⟨rfl, rfl⟩
end Go.Proofs.YtpdppjngbbkbbaaDoor

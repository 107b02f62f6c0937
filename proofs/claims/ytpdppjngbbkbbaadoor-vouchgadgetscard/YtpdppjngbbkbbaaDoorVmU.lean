/- The document's Bounds, Copies, Gadget. -/
import Derived.Test.YtpdppjngbbkbbaaDoorVmT
import Derived.Test.YtpdppjngbbkbbaaDoorVmE
namespace Go.Proofs.YtpdppjngbbkbbaaDoor
open Go.RowKit

open Classical in
/-- What Bounds answers. -/
noncomputable def bndCode (nodes : Int) (es : List Ed) (b : List Int) (mb : Nat) : Int :=
  if (faultOf nodes es).1 ≠ 0 then (faultOf nodes es).1 else if BndOk b mb nodes.toNat then 0 else 130

set_option maxRecDepth 100000 in
set_option linter.unusedSimpArgs false in
set_option maxHeartbeats 4000000 in
theorem boundsR_calls (nodes : Int) (ao : Option Addr) (n cap : Nat) (es : List Ed) (bo : Option Addr) (mb bc : Nat) (b : List Int) (w : World) (h : ERow w ao n cap es) (hJ : JRow w bo mb bc b) (z : Int) (hz : Hid (bndCode nodes es b mb = z)) :
    Calls Tryd.prog 75 #[.agg #[.int .i64 nodes, .slice ao n cap], .slice bo mb bc] w fun r w' => r = .returned (.int .i64 z) ∧ Kept w w' := by
  obtain ⟨fc, fa, hf⟩ : ∃ c a, faultOf nodes es = (c, a) := ⟨_, _, rfl⟩
  have hz' := hz.out
  unfold bndCode at hz'
  have hr2 := hJ.room
  have hm2 := hJ.most
  unfold maxLen at hm2
  have KW : Kept w (w.alloc (Obj.cells #[.int .i64 nodes, .slice ao n cap] 24)) := (Kept.refl w).alloc _
  have w0 : (w.alloc (Obj.cells #[.int .i64 nodes, .slice ao n cap] 24)).cell? ⟨w.heap.size, 0, none⟩ = some (.int .i64 nodes) := by simp [go_sem]
  have w1 : (w.alloc (Obj.cells #[.int .i64 nodes, .slice ao n cap] 24)).cell? ⟨w.heap.size, 1, none⟩ = some (.slice ao n cap) := by simp [go_sem]
  have CH := hid_of (checkR_calls nodes ao n cap es _ (h.kept KW) fc fa (hid_of hf))
  have HJ := hid_of hJ
  clear h hJ hz
  by_cases hc : fc = 0
  rotate_left
  · rw [if_pos (by rw [hf]; exact hc), hf] at hz'
    subst hz'
    have q : (fc != 0) = true := by simpa using hc
    clear hc hf
    go_enter Tryd.func75, Tryd.ntmps75
    go_wp2_with fail
    refine CH.out.mono ?_
    rintro e wa ⟨rfl, K1⟩
    have HK := hid_of (KW.trans K1)
    clear KW K1 CH w0 w1
    go_wp2
    go_ret
    exact ⟨rfl, HK.out⟩
  subst hc
  have h0 : (faultOf nodes es).1 = 0 := by rw [hf]
  rw [if_neg (by rw [hf]; simp)] at hz'
  obtain ⟨N, rfl, RG⟩ := right_of (fault_zero h0)
  have hN := RG.nodes
  rw [Int.toNat_natCast] at hz'
  have ANS : Hid ((BndOk b mb N → z = 0) ∧ (¬ BndOk b mb N → z = 130)) := by
    refine ⟨fun t => ?_, fun t => ?_⟩
    · rw [if_pos t] at hz'; exact hz'.symm
    · rw [if_neg t] at hz'; exact hz'.symm
  clear RG hf h0 hz'
  go_enter Tryd.func75, Tryd.ntmps75
  go_wp2_with fail
  refine CH.out.mono ?_
  rintro e wa ⟨rfl, K1⟩
  have HK := hid_of (KW.trans K1)
  replace w0 := K1.cell w0
  clear KW K1 CH w1
  by_cases hmn : mb = N
  rotate_left
  · have q : ((mb : Int) != (N : Int)) = true := by simp; omega
    obtain rfl := ANS.out.2 (fun t => hmn t.1)
    go_wp2
    go_ret
    exact ⟨rfl, HK.out⟩
  subst hmn
  have q : ((mb : Int) != (mb : Int)) = false := by simp
  go_wp2_with fail
  go_loopw [7] (fun i wr => ∃ (k : Nat), k ≤ mb ∧ i = .int .i64 k ∧ wa = wr ∧ ∀ j, j < k → 0 ≤ zAt b j ∧ zAt b j ≤ 4096) (fun i _ => mb - (intOf i).toNat)
  case atStart => exact ⟨0, by omega, rfl, rfl, fun i hi => by omega⟩
  case round =>
    obtain ⟨k, hk, rfl, rfl, hno⟩ := hrel
    have HNO := hid_of hno
    clear hno
    by_cases hgo : (k : Int) < (mb : Int)
    · obtain ⟨b2, off2, rfl, hc2⟩ := (HJ.out.kept HK.out).at (by omega)
      have d5 := hc2 k (by omega)
      clear hc2
      have HIT : Hid ((0 ≤ zAt b k ∧ zAt b k ≤ 4096) → ∀ j, j < k + 1 → 0 ≤ zAt b j ∧ zAt b j ≤ 4096) := fun hb i hi => by
        by_cases e : i = k
        · subst e; exact hb
        · exact HNO.out i (by omega)
      have MISS : Hid (¬ (0 ≤ zAt b k ∧ zAt b k ≤ 4096) → ¬ BndOk b mb mb) := fun hb t => hb (t.2 k (by omega))
      generalize zAt b k = x at d5 HIT MISS
      by_cases hx : 0 ≤ x
      · have g1 : decide (x < 0) = false := decide_eq_false (by omega)
        by_cases hy : x ≤ 4096
        · have g2 : decide (4096 < x) = false := decide_eq_false (by omega)
          have P := hid_of (HIT.out ⟨hx, hy⟩)
          clear HIT MISS
          go_wp2_with fail
          go_roundw
          case rel => exact ⟨k + 1, by omega, by go_num, by trivial, P.out⟩
          case measure => simp [intOf]; omega
        · have g2 : decide (4096 < x) = true := decide_eq_true (by omega)
          obtain rfl := ANS.out.2 (MISS.out (fun t => hy t.2))
          clear HIT MISS
          go_wp2
          go_ret
          exact ⟨rfl, HK.out⟩
      · have g1 : decide (x < 0) = true := decide_eq_true (by omega)
        obtain rfl := ANS.out.2 (MISS.out (fun t => hx t.1))
        clear HIT MISS
        go_wp2
        go_ret
        exact ⟨rfl, HK.out⟩
    · obtain rfl : k = mb := by omega
      obtain rfl := ANS.out.1 ⟨rfl, HNO.out⟩
      go_wp2
      go_ret
      exact ⟨rfl, HK.out⟩

set_option maxRecDepth 100000 in
set_option linter.unusedSimpArgs false in
set_option maxHeartbeats 4000000 in
theorem copiesR_calls (nodes : Int) (N : Nat) (ao : Option Addr) (n cap : Nat) (hn : n ≤ 4096) (es : List Ed) (bo : Option Addr) (mb bc : Nat) (b : List Int) (v : Nat) (hv : v < N) (w : World) (h : ERow w ao n cap es) (hJ : JRow w bo mb bc b) (hb : BndOk b mb N) :
    Calls Tryd.prog 76 #[.agg #[.int .i64 nodes, .slice ao n cap], .slice bo mb bc, .int .i64 (v : Int)] w fun r w' => r = .returned (.int .i64 (cpyOf es n b v)) ∧ Kept w w' := by
  have hr1 := h.room
  have hm1 := h.most
  have hr2 := hJ.room
  have hm2 := hJ.most
  unfold maxLen at hm1 hm2
  obtain rfl : mb = N := hb.1
  have KW : Kept w (w.alloc (Obj.cells #[.int .i64 nodes, .slice ao n cap] 24)) := (Kept.refl w).alloc _
  have w1 : (w.alloc (Obj.cells #[.int .i64 nodes, .slice ao n cap] 24)).cell? ⟨w.heap.size, 1, none⟩ = some (.slice ao n cap) := by simp [go_sem]
  have HE := hid_of h
  have HJ := hid_of hJ
  clear h hJ hb
  go_enter Tryd.func76, Tryd.ntmps76
  go_wp2_with fail
  generalize w.alloc (Obj.cells #[.int .i64 nodes, .slice ao n cap] 24) = W1 at KW w1 ⊢
  have W1H := hid_of w1
  have KWH := hid_of KW
  clear KW
  go_loopw [7, 8, 9] (fun s i _ wr => ∃ (k : Nat), k ≤ n ∧ i = .int .i64 k ∧ s = .int .i64 (endTo es k v) ∧ Kept W1 wr) (fun _ i _ _ => n - (intOf i).toNat)
  case atStart => exact ⟨0, by omega, rfl, rfl, Kept.refl _⟩
  case round =>
    obtain ⟨k, hk, rfl, rfl, K⟩ := hrel
    have w1 := K.cell W1H.out
    have KH := hid_of K
    by_cases hgo : (k : Int) < (n : Int)
    · obtain ⟨b2, off2, rfl, hc2⟩ := (HE.out.kept (KWH.out.trans K)).cell (by omega)
      obtain ⟨d1, d2, d3, d4⟩ := hc2 k (by omega)
      have SU := hid_of (endTo_succ es k v)
      obtain ⟨t1, t2⟩ := endTo_bd es k v
      unfold lp at SU
      generalize endTo es k v = cnt at SU t1 t2 ⊢
      generalize edAt es k = e at d1 d2 d3 d4 SU
      obtain ⟨f, t, ec, ek⟩ := e
      simp only at d1 d2 d3 d4 SU
      have WA : IntKind.i64.wrap (cnt + 1) = cnt + 1 := wrap_id (by omega) (by omega)
      clear hc2 K
      go_upto_region 6 with fail
      generalize hW : wr.alloc (Obj.cells #[.int .i64 f, .int .i64 t, .int .i64 ec, .int .i64 ek] 86) = W3
      obtain ⟨EK, a0, a1, a2, a3, -⟩ := edge_box hW
      have K3 := hid_of (KH.out.trans EK)
      clear d1 d2 d3 d4 EK KH hW a2 a3 w1
      by_cases hft : f = t
      · have q1 : (f != t) = false := by simp [hft]
        have E : Hid (endTo es (k + 1) v = cnt) := by
          show endTo es (k + 1) v = _
          rw [SU.out, if_pos (by rw [beq_iff_eq]; exact hft)]
        clear SU hft
        go_wp2_with fail
        go_roundw
        case rel => exact ⟨k + 1, by omega, by go_num, by rw [E.out], K3.out⟩
        case measure => simp [intOf]; omega
      · have q1 : (f != t) = true := by rw [bne_iff_ne]; exact hft
        have nlp : ¬ (f == t) = true := by rw [beq_iff_eq]; exact hft
        by_cases hf : f = (v : Int)
        · have q2 : (f == (v : Int)) = true := by rw [beq_iff_eq]; exact hf
          have E : Hid (endTo es (k + 1) v = cnt + 1) := by
            show endTo es (k + 1) v = _
            rw [SU.out, if_neg nlp, if_pos hf, if_neg (fun u => hft (by rw [hf, u]))]; omega
          clear SU hft nlp hf
          go_wp2_with fail
          go_roundw
          case rel => exact ⟨k + 1, by omega, by go_num, by rw [E.out], K3.out⟩
          case measure => simp [intOf]; omega
        · have q2 : (f == (v : Int)) = false := by rw [beq_eq_false_iff_ne]; exact hf
          by_cases ht : t = (v : Int)
          · have q3 : (t == (v : Int)) = true := by rw [beq_iff_eq]; exact ht
            have E : Hid (endTo es (k + 1) v = cnt + 1) := by
              show endTo es (k + 1) v = _
              rw [SU.out, if_neg nlp, if_neg hf, if_pos ht]; omega
            clear SU hft nlp ht hf
            go_wp2_with fail
            go_roundw
            case rel => exact ⟨k + 1, by omega, by go_num, by rw [E.out], K3.out⟩
            case measure => simp [intOf]; omega
          · have q3 : (t == (v : Int)) = false := by rw [beq_eq_false_iff_ne]; exact ht
            have E : Hid (endTo es (k + 1) v = cnt) := by
              show endTo es (k + 1) v = _
              rw [SU.out, if_neg nlp, if_neg hf, if_neg ht]; omega
            clear SU hft nlp
            go_wp2_with fail
            go_roundw
            case rel => exact ⟨k + 1, by omega, by go_num, by rw [E.out], K3.out⟩
            case measure => simp [intOf]; omega
    · obtain rfl : k = n := by omega
      obtain ⟨b2, off2, rfl, hc2⟩ := (HJ.out.kept (KWH.out.trans K)).at (by omega)
      have d5 := hc2 v hv
      have hvm : (v : Int) < (mb : Int) := by omega
      have KF := hid_of (KWH.out.trans K)
      have CP : Hid (cpyOf es k b v = if zAt b v < endTo es k v then zAt b v else endTo es k v) := rfl
      generalize zAt b v = x at d5 CP
      generalize endTo es k v = cnt at CP ⊢
      clear K KH hc2
      by_cases hlt : x < cnt
      · have q : decide (x < cnt) = true := decide_eq_true hlt
        have E : Hid (cpyOf es k b v = x) := by show _ = _; rw [CP.out, if_pos hlt]
        clear CP hlt
        go_wp2_with fail
        go_ret
        exact ⟨by rw [E.out]; rfl, KF.out⟩
      · have q : decide (x < cnt) = false := decide_eq_false hlt
        have E : Hid (cpyOf es k b v = cnt) := by show _ = _; rw [CP.out, if_neg hlt]
        clear CP hlt
        go_wp2_with fail
        go_ret
        exact ⟨by rw [E.out]; rfl, KF.out⟩

open Classical in
/-- How many edges Gadget counts. -/
noncomputable def gadCnt (nodes : Int) (es : List Ed) (n : Nat) (b : List Int) (mb : Nat) : Int :=
  if (faultOf nodes es).1 ≠ 0 then 0 else if ¬ BndOk b mb nodes.toNat then 0 else if ¬ Fits (cpyOf es n b) nodes.toNat es n then 0 else nlTo es n

/-- An edge more, behind the append and the store. -/
theorem nete_step {w w1 : World} {B nb eb len cap : Nat} {nodes : Int} {L : List Ed} {x y : Value} {ao : Option Addr} {a b : Int} {v' : Value} (H : NetE w B nb eb nodes L x y) (hl : L.length = len) (c1 : w.cell? ⟨nb, 1, none⟩ = some (.slice ao len cap)) (O : w.ownsRow B 86 4 (.slice ao len cap) len (evals L)) (hp : some nb ≠ (Value.slice ao len cap).ownBlock) (he : some eb ≠ (Value.slice ao len cap).ownBlock)
    (own : w1.ownsRow B 86 4 v' (len + 1) (evals L ++ ecells ⟨a, b, 0, 0⟩)) (grow : (w.alloc (Obj.cells #[.int .i64 a, .int .i64 b, .int .i64 0, .int .i64 0] 86)).grownBy w1 (Value.slice ao len cap).ownBlock) (hat : v'.ownBlock = (Value.slice ao len cap).ownBlock ∨ v'.ownBlock = some (w.heap.size + 1)) :
    ∃ ao5 cap5, v' = .slice ao5 (len + 1) cap5 ∧ w1.cell? ⟨nb, 1, none⟩ = some (.slice ao len cap) ∧ w1.frozen? ⟨nb, 1, none⟩ = false ∧ NetE (w1.setCell ⟨nb, 1, none⟩ v') B nb eb nodes (L ++ [⟨a, b, 0, 0⟩]) x y ∧ Ch (fun k => B ≤ k) w (w1.setCell ⟨nb, 1, none⟩ v') := by
  have lb : nb < w.heap.size := lt_cell c1
  have le : eb < w.heap.size := lt_cell H.box.f0
  have KA : Kept w (w.alloc (Obj.cells #[.int .i64 a, .int .i64 b, .int .i64 0, .int .i64 0] 86)) := (Kept.refl w).alloc _
  obtain ⟨ao5, cap5, rfl, q1, q2, q3, q4⟩ := net_grow (wr := w) (o := Obj.cells #[.int .i64 a, .int .i64 b, .int .i64 0, .int .i64 0] 86) (x := ⟨a, b, 0, 0⟩) hl.symm H.c0 c1 hp (H.zz 0) (H.zz 1) H.ge H.zz own grow hat
  have b0 : w1.cell? ⟨eb, 0, none⟩ = some x := grow.cell (KA.cell H.box.f0) he
  have b1 : w1.cell? ⟨eb, 1, none⟩ = some y := grow.cell (KA.cell H.box.f1) he
  refine ⟨ao5, cap5, rfl, q1, q2, ?_, Ch.setCell (F := fun k => B ≤ k) ((Ch.of_kept KA).trans (Ch.of_grown grow (fun kk e => (O.lt kk e).1))) (p := ⟨nb, 1, none⟩) H.ge _⟩
  obtain ⟨ao6, cap6, r1, r2, r3⟩ := q3.c1
  have hl2 : (L ++ [(⟨a, b, 0, 0⟩ : Ed)]).length = len + 1 := by simp [hl]
  rw [hl2] at r1 r2 r3
  have e : ao6 = ao5 ∧ cap6 = cap5 := by
    rw [q4] at r1
    simp at r1
    exact ⟨r1.1.symm, r1.2.symm⟩
  obtain ⟨rfl, rfl⟩ := e
  refine ⟨q3.c0, ⟨ao6, cap6, by rw [hl2]; exact q4, by rw [hl2]; exact r2, by rw [hl2]; exact r3, ?_⟩, H.ge, q3.zz, ⟨cell_put b0 H.ne, cell_put b1 H.ne⟩, H.ne⟩
  rw [hl2]
  rcases hat with t | t
  · rw [t]; exact he
  · rw [t]; simp; omega
/-- The number of nodes is set anew. -/
theorem NetE.nodes {w : World} {B nb eb : Nat} {nodes : Int} {L : List Ed} {x y : Value} (H : NetE w B nb eb nodes L x y) (z : Int) : NetE (w.setCell ⟨nb, 0, none⟩ (.int .i64 z)) B nb eb z L x y ∧ Ch (fun k => B ≤ k) w (w.setCell ⟨nb, 0, none⟩ (.int .i64 z)) := by
  obtain ⟨ao, cap, c1, O, hp, he⟩ := H.c1
  refine ⟨⟨World.cell?_setCell_same _ _ _ H.c0, ⟨ao, cap, ?_, ?_, hp, he⟩, H.ge, fun o => ?_, ⟨cell_put H.box.f0 H.ne, cell_put H.box.f1 H.ne⟩, H.ne⟩, Ch.setCell (F := fun k => B ≤ k) (Ch.of_kept (Kept.refl w)) (p := ⟨nb, 0, none⟩) H.ge _⟩
  · rw [World.cell?_setCell_other _ _ _ _ (by simp)]; exact c1
  · exact O.kept (grown_setCell w ⟨nb, 0, none⟩ (.int .i64 z)) (.inr (Ne.symm hp))
  · simpa [go_sem] using H.zz o
end Go.Proofs.YtpdppjngbbkbbaaDoor

/- WalkNear: the walk of the law. -/
import Derived.Test.YtdfmaeflcppcbaaWkJ
namespace Go.Proofs.Ytdfmaeflcppcbaa
open Go.RowKit

set_option maxRecDepth 100000 in
set_option maxHeartbeats 4000000 in
theorem walkNearBad (nodes : Int) (ao : Option Addr) (m cap : Nat) (es : List Ed) (w : World) (h : ERow w ao m cap es) (c a : Int) (hf : Hid (faultOf nodes es = (c, a))) (s : Int) (hb : c ≠ 0 ∨ s < 0 ∨ nodes ≤ s) :
    Calls Try.prog 7 #[.agg #[.int .i64 nodes, .slice ao m cap], .int .i64 s] w fun v w' => v = .returned (.bool true) ∧ Kept w w' := by
  have hnot : ∀ (x : Bool) (w : World), (Op.unary .not (.bool x)).run Try.prog w = .ok (.bool (!x)) w := fun _ _ => rfl
  have KG : Kept w (w.alloc (Obj.cells #[.int .i64 nodes, .slice ao m cap] 24)) := (Kept.refl w).alloc _
  have g0 : (w.alloc (Obj.cells #[.int .i64 nodes, .slice ao m cap] 24)).cell? ⟨w.heap.size, 0, none⟩ = some (.int .i64 nodes) := by simp [go_sem]
  have g1 : (w.alloc (Obj.cells #[.int .i64 nodes, .slice ao m cap] 24)).cell? ⟨w.heap.size, 1, none⟩ = some (.slice ao m cap) := by simp [go_sem]
  have HE := hid_of (h.kept KG)
  have HB := hid_of hb
  clear h hb
  go_enter Try.func7, Try.ntmps7
  go_wp2_with fail
  generalize hW0 : w.alloc (Obj.cells #[.int .i64 nodes, .slice ao m cap] 24) = W0 at KG g0 g1 HE ⊢
  clear hW0
  refine (awake_calls W0).mono ?_
  rintro v wa ⟨rfl, K1⟩
  replace g0 := K1.cell g0
  replace g1 := K1.cell g1
  have HE1 := hid_of (HE.out.kept K1)
  have KA := hid_of (KG.trans K1)
  clear K1 KG HE
  go_wp2_with fail
  obtain ⟨cc, hcc⟩ : ∃ cc, Hid (cc = if c = 0 then 30 else c) := ⟨_, hid_of rfl⟩
  refine (levelsBad_calls nodes ao m cap es wa HE1.out c a hf s HB.out cc hcc).mono ?_
  rintro v wb ⟨rfl, K2⟩
  have KB := hid_of (KA.out.trans K2)
  have hne : (cc != 0) = true := by
    rw [hcc.out]
    by_cases e : c = 0
    · simp [e]
    · simp [e]
  clear K2 KA
  go_wp2_with fail
  go_ret
  exact ⟨rfl, KB.out⟩

/-- Which nodes are one edge behind a level less, by the first k edges. -/
def behTo (es : List Ed) (lv : Nat → Int) (k : Nat) (v : Nat) : Bool := (es.take k).any fun e => e.t == (v : Int) && decide (0 ≤ lv e.f.toNat) && decide (lv e.t.toNat = lv e.f.toNat + 1)

theorem behTo_succ (es : List Ed) (lv : Nat → Int) (k : Nat) (hk : k < es.length) (f t : Nat) (hf : (edAt es k).f = (f : Int)) (ht : (edAt es k).t = (t : Int)) :
    behTo es lv (k + 1) = fun v => if 0 ≤ lv f ∧ lv t = lv f + 1 ∧ v = t then true else behTo es lv k v := by
  funext v
  unfold behTo
  rw [take_snocW es k hk, List.any_append]
  simp only [List.any_cons, List.any_nil, Bool.or_false, hf, ht, Int.toNat_natCast]
  by_cases e : 0 ≤ lv f ∧ lv t = lv f + 1 ∧ v = t
  · rw [if_pos e]
    simp [e.1, e.2.1, e.2.2]
  · rw [if_neg e]
    have : (((t : Int) == (v : Int)) && decide (0 ≤ lv f) && decide (lv t = lv f + 1)) = false := by
      simp only [Bool.and_eq_false_iff, decide_eq_false_iff_not, beq_eq_false_iff_ne]
      by_cases e1 : (t : Int) = (v : Int)
      · by_cases e2 : 0 ≤ lv f
        · right
          intro e3
          exact e ⟨e2, e3, by omega⟩
        · exact .inl (.inr e2)
      · exact .inl (.inl e1)
    rw [this, Bool.or_false]

theorem behTo_all {es : List Ed} {n s : Nat} {lv : Nat → Int} (h : Levs es n s lv) (v : Nat) (hv : 0 < lv v) : behTo es lv es.length v = true := by
  obtain ⟨e, he, ht, hp, hl⟩ := h.pred v hv
  unfold behTo
  rw [List.take_of_length_le (Nat.le_refl _), List.any_eq_true]
  refine ⟨e, he, ?_⟩
  have : e.t.toNat = v := by omega
  simp [ht, hp, hl]

set_option maxRecDepth 100000 in
set_option maxHeartbeats 4000000 in
theorem walkNearGood (n : Nat) (hn : n ≤ 1024) (ao : Option Addr) (m cap : Nat) (es : List Ed) (w : World) (h : ERow w ao m cap es) (hf : Hid (faultOf (n : Int) es = (0, 0))) (hm4 : m ≤ 4096) (hrg : Hid (∀ e ∈ es, 0 ≤ e.f ∧ e.f < (n : Int) ∧ 0 ≤ e.t ∧ e.t < (n : Int))) (s : Nat) (hs : s < n) :
    Calls Try.prog 7 #[.agg #[.int .i64 (n : Int), .slice ao m cap], .int .i64 (s : Int)] w fun v w' => v = .returned (.bool true) ∧ Kept w w' := by
  have hnot : ∀ (x : Bool) (w : World), (Op.unary .not (.bool x)).run Try.prog w = .ok (.bool (!x)) w := fun _ _ => rfl
  have hmkB : ∀ w : World, (Instr.makeSlice 43 (.int .i64 (n : Int)) (.int .i64 (n : Int))).run Try.prog w = .ok (.slice (some ⟨w.heap.size, 0, none⟩) n n) (w.alloc (.cells (madeCells #[.bool false] n) 4)) :=
    fun w => run_make_row' 43 4 (.bool false) 1 Try.underlying43 infoB0 rfl .i64 .i64 n (by omega) (by omega) w
  have KG : Kept w (w.alloc (Obj.cells #[.int .i64 (n : Int), .slice ao m cap] 24)) := (Kept.refl w).alloc _
  have g0 : (w.alloc (Obj.cells #[.int .i64 (n : Int), .slice ao m cap] 24)).cell? ⟨w.heap.size, 0, none⟩ = some (.int .i64 (n : Int)) := by simp [go_sem]
  have g1 : (w.alloc (Obj.cells #[.int .i64 (n : Int), .slice ao m cap] 24)).cell? ⟨w.heap.size, 1, none⟩ = some (.slice ao m cap) := by simp [go_sem]
  have HE := hid_of (h.kept KG)
  have HL := hid_of h.len
  have hr := h.room
  have hmx := h.most
  unfold maxLen at hmx
  have hsi : (s : Int) < (n : Int) := by omega
  clear h
  go_enter Try.func7, Try.ntmps7
  go_wp2_with fail
  generalize hW0 : w.alloc (Obj.cells #[.int .i64 (n : Int), .slice ao m cap] 24) = W0 at KG g0 g1 HE ⊢
  clear hW0
  refine (awake_calls W0).mono ?_
  rintro v wa ⟨rfl, K1⟩
  replace g0 := K1.cell g0
  replace g1 := K1.cell g1
  have HE1 := hid_of (HE.out.kept K1)
  have KA := hid_of (KG.trans K1)
  clear K1 KG HE
  go_wp2_with fail
  refine (levels_calls n hn ao m cap es wa HE1.out hf hm4 hrg s hs).mono ?_
  rintro v wb ⟨g, lv, rfl, LV, I2, lg, K2⟩
  have LS := hid_of (LV.levs HL.out hs hrg.out)
  replace g0 := K2.cell g0
  replace g1 := K2.cell g1
  have cs := I2.cell hs
  rw [LS.out.s0] at cs
  have HE2 := hid_of (HE1.out.kept K2)
  have KB := hid_of (KA.out.trans K2)
  have I2H := hid_of I2
  have lgb := I2.lt
  have qn : ((n : Int) != (n : Int)) = false := by simp
  clear LV I2 K2 HE1 KA
  go_upto_region 8 with fail
  have B3 := World.rowIs_made wb (.bool false) n 4
  have K3 : Kept wb (wb.alloc (.cells (madeCells #[.bool false] n) 4)) := (Kept.refl wb).alloc _
  have z3 : (wb.alloc (.cells (madeCells #[.bool false] n) 4)).heap.size = wb.heap.size + 1 := by simp
  have p1 := K3.cell g1
  have B3H : Hid (BoolsAt (wb.alloc (.cells (madeCells #[.bool false] n) 4)) wb.heap.size n (behTo es lv 0)) := World.rowIs.congr B3 (fun i _ => by simp [behTo])
  have K3H := hid_of K3
  clear B3
  go_upto_region 9 with fail
  generalize hW3 : wb.alloc (.cells (madeCells #[.bool false] n) 4) = W3 at K3 z3 p1 B3H K3H ⊢
  clear hW3 hmkB K3
  obtain ⟨q, hq⟩ : ∃ q, wb.heap.size = q := ⟨_, rfl⟩
  have HQ := hid_of hq
  rw [hq] at B3H lgb ⊢
  clear hq
  go_wp2_with fail
  go_loopw [9, 10, 11, 45] (fun _ _ _ i wr => ∃ k : Nat, k ≤ m ∧ i = .int .i64 (k : Int) ∧ BoolsAt wr q n (behTo es lv k) ∧ Kept wb wr) (fun _ _ _ i _ => m - (intOf i).toNat)
  case atStart => exact ⟨0, by omega, rfl, B3H.out, K3H.out⟩
  case round =>
    obtain ⟨k, hk, rfl, BR, K⟩ := hrel
    clear B3H K3H
    have IR := I2H.out.kept K
    by_cases hgo : (k : Int) < (m : Int)
    · obtain ⟨b, off, rfl, hc⟩ := HE2.out.cell (by omega)
      obtain ⟨d1, d2, d3, d4⟩ := hc k (by omega)
      replace d1 := K.cell d1
      replace d2 := K.cell d2
      replace d3 := K.cell d3
      replace d4 := K.cell d4
      clear hc
      have hkl : k < es.length := by have := HL.out; omega
      have hmem : edAt es k ∈ es := by
        have : edAt es k = es[k] := by simp [edAt, List.getD, hkl]
        rw [this]; exact List.getElem_mem hkl
      have RG := hrg.out _ hmem
      have EG := LS.out.edge _ hmem
      obtain ⟨f, hfe⟩ : ∃ f : Nat, (edAt es k).f = (f : Int) := ⟨(edAt es k).f.toNat, by omega⟩
      obtain ⟨t, hte⟩ : ∃ t : Nat, (edAt es k).t = (t : Int) := ⟨(edAt es k).t.toNat, by omega⟩
      have SU := hid_of (behTo_succ es lv k hkl f t hfe hte)
      rw [hfe, hte] at RG EG
      rw [hfe] at d1
      rw [hte] at d2
      simp only [Int.toNat_natCast] at EG
      have hfn : f < n := by omega
      have htn : t < n := by omega
      have hfi : (f : Int) < (n : Int) := by omega
      have hti : (t : Int) < (n : Int) := by omega
      generalize (edAt es k).c = ec at d3
      generalize (edAt es k).k = ek at d4
      have la := LS.out.low f
      have lb := LS.out.low t
      have ta := LS.out.top f
      have KE : Kept wr (wr.alloc (Obj.cells #[.int .i64 (f : Int), .int .i64 (t : Int), .int .i64 ec, .int .i64 ek] 45)) := (Kept.refl wr).alloc _
      have e0 : (wr.alloc (Obj.cells #[.int .i64 (f : Int), .int .i64 (t : Int), .int .i64 ec, .int .i64 ek] 45)).cell? ⟨wr.heap.size, 0, none⟩ = some (.int .i64 (f : Int)) := by simp [go_sem]
      have e1 : (wr.alloc (Obj.cells #[.int .i64 (f : Int), .int .i64 (t : Int), .int .i64 ec, .int .i64 ek] 45)).cell? ⟨wr.heap.size, 1, none⟩ = some (.int .i64 (t : Int)) := by simp [go_sem]
      have cf := KE.cell (IR.cell hfn)
      have ct := KE.cell (IR.cell htn)
      have BW := hid_of (BR.kept KE)
      have KW := hid_of (K.trans KE)
      clear hmem RG hfe hte BR IR
      go_upto_region 12 with fail
      generalize hW4 : wr.alloc (Obj.cells #[.int .i64 (f : Int), .int .i64 (t : Int), .int .i64 ec, .int .i64 ek] 45) = W4 at KE e0 e1 cf ct BW KW ⊢
      clear hW4 KE d1 d2 d3 d4 K
      obtain ⟨lf, hlf⟩ : ∃ z, lv f = z := ⟨_, rfl⟩
      obtain ⟨lt, hlt⟩ : ∃ z, lv t = z := ⟨_, rfl⟩
      rw [hlf] at cf la ta EG SU
      rw [hlt] at ct lb EG SU
      clear hlf hlt
      have hwr : IntKind.i64.wrap (lf + 1) = lf + 1 := by rw [IntKind.wrap_i64]; first | omega | (unfold wrap64; omega)
      refine Ord.region [(0, 0), (1, 0), (2, 1), (3, 0), (4, 1), (5, 0), (6, 0), (7, 1), (8, 0), (9, 1), (10, 0), (11, 0)] (fun w' => Kept W4 w') (by kernel_rfl) (by kernel_rfl) (by kernel_rfl) (by kernel_rfl) (fun _ _ d _ _ h => by cases d <;> exact h) ((Kept.refl _).drewN _) ?_
      repeat
        refine Ord.step rfl (fun Ko hK => ?_)
        simp only [Ord.body]
        go_simp
        first
          | (refine hK _ _ ?_; clear hK Ko)
          | (refine ⟨_, fun w' hS => (by have c0 := hS.cell e0; simp only [c0, Result.andThen]; rfl), hK _ _ ?_⟩; clear hK Ko)
          | (refine ⟨_, fun w' hS => (by have c0 := hS.cell e1; simp only [c0, Result.andThen]; rfl), hK _ _ ?_⟩; clear hK Ko)
          | (refine ⟨_, fun w' hS => (by have c0 := hS.cell cf; simp only [c0, Result.andThen]; rfl), hK _ _ ?_⟩; clear hK Ko)
          | (refine ⟨_, fun w' hS => (by have c0 := hS.cell ct; simp only [c0, Result.andThen]; rfl), hK _ _ ?_⟩; clear hK Ko)
      refine Ord.done ?_
      have KD : Kept W4 (W4.drewN 1) := (Kept.refl W4).drewN 1
      have B5 := BW.out.kept KD
      have K5 := hid_of (KW.out.trans KD)
      have r1 := KD.cell e1
      have bt := B5.cell htn
      have ft := World.rowIs.frozen B5 t
      have B5H := hid_of B5
      clear B5 BW KW KD e0 e1 cf ct
      generalize hW5 : W4.drewN 1 = W5 at *
      clear hW5
      by_cases hpos : 0 ≤ lf
      · obtain ⟨eg1, eg2⟩ := EG hpos
        have n1 : ¬ lt < 0 := by omega
        have n2 : ¬ lf + 1 < lt := by omega
        by_cases heq : lt = lf + 1
        · have qe : (lt == lf + 1) = true := by simp [heq]
          have BN : Hid (BoolsAt (W5.setCell ⟨q, t, none⟩ (.bool true)) q n (behTo es lv (k + 1))) := (BoolsAt.set B5H.out t true).congr (fun v _ => by
            rw [SU.out]
            by_cases e : v = t
            · simp [e, hpos, heq]
            · simp [e])
          have KN : Hid (Kept wb (W5.setCell ⟨q, t, none⟩ (.bool true))) := K5.out.setCell (p := ⟨q, t, none⟩) (by rw [HQ.out]; exact Nat.le_refl _) _
          clear EG
          go_wp2_with fail
          go_roundw
          case rel => exact ⟨k + 1, by omega, by go_num, BN.out, KN.out⟩
          case measure => simp [intOf]; omega
        · have qe : (lt == lf + 1) = false := by simpa using heq
          have BN : Hid (BoolsAt W5 q n (behTo es lv (k + 1))) := World.rowIs.congr B5H.out (fun v _ => by rw [SU.out]; simp [heq])
          clear EG
          go_wp2_with fail
          go_roundw
          case rel => exact ⟨k + 1, by omega, by go_num, BN.out, K5.out⟩
          case measure => simp [intOf]; omega
      · have BN : Hid (BoolsAt W5 q n (behTo es lv (k + 1))) := World.rowIs.congr B5H.out (fun v _ => by rw [SU.out]; simp [hpos])
        clear EG
        go_wp2_with fail
        go_roundw
        case rel => exact ⟨k + 1, by omega, by go_num, BN.out, K5.out⟩
        case measure => simp [intOf]; omega
    · obtain rfl : k = m := by omega
      rw [HL.out] at BR
      have BF := hid_of BR
      have IF := hid_of IR
      have KF := hid_of (KB.out.trans K)
      clear BR IR K HE2
      go_wp2_with fail
      go_loopw [12, 13, 86] (fun _ _ i w2 => ∃ v : Nat, v ≤ n ∧ i = .int .i64 (v : Int) ∧ w2 = wr) (fun _ _ i _ => n - (intOf i).toNat)
      case atStart => exact ⟨0, by omega, rfl, rfl⟩
      case round =>
        obtain ⟨v, hv, rfl, rfl⟩ := hrel
        by_cases hgo2 : (v : Int) < (n : Int)
        · have hvn : v < n := by omega
          have cl := IF.out.cell hvn
          have cb := BF.out.cell hvn
          have lo := LS.out.low v
          have hz := LS.out.zero v
          have hb := behTo_all LS.out v
          generalize lv v = l at cl lo hz hb
          generalize behTo es lv es.length v = bb at cb hb
          have nlo : ¬ l < -1 := by omega
          by_cases hl0 : l = 0
          · have hvs := hz hl0
            subst hvs hl0
            have qv : ((v : Int) != (v : Int)) = false := by simp
            clear hb hz
            go_wp2_with fail
            go_roundw
            case rel => exact ⟨v + 1, by omega, by go_num, trivial⟩
            case measure => simp [intOf]; omega
          · have ql : (l == 0) = false := by simpa using hl0
            by_cases hlp : 0 < l
            · have hbt := hb hlp
              subst hbt
              clear hb hz
              go_wp2_with fail
              go_roundw
              case rel => exact ⟨v + 1, by omega, by go_num, trivial⟩
              case measure => simp [intOf]; omega
            · clear hb hz
              go_wp2_with fail
              go_roundw
              case rel => exact ⟨v + 1, by omega, by go_num, trivial⟩
              case measure => simp [intOf]; omega
        · clear BF IF
          go_wp2_with fail
          go_ret
          exact ⟨rfl, KF.out⟩
end Go.Proofs.Ytdfmaeflcppcbaa

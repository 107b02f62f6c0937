/- Doubled. -/
import Derived.Test.YtpdppjngbbkbbaaDoorVpC
namespace Go.Proofs.YtpdppjngbbkbbaaDoor
open Go.RowKit

/-- The uneven nodes of all edges. -/
def unevAll (es : List Ed) (N n : Nat) : List Int := unevTo (odTo es (allTo n) n) N
/-- No edge costs less than nothing. -/
def NoMinus (es : List Ed) (n : Nat) : Prop := ∀ i, i < n → 0 ≤ (edAt es i).k
/-- Edges walked twice with a metric that proves them cheapest. -/
def DblOk (es : List Ed) (N n : Nat) (m : List Int) (lm : Nat) (ds : List (List Int)) (nd : Nat) (Y : List Int) (my : Nat) (ss : Sets) (ns : Nat) : Prop :=
  RiseTo m (n : Int) lm ∧ unevTo (odTo es m lm) N = unevAll es N n ∧ MetOk es N n ds nd (unevAll es N n) (unevAll es N n).length ∧ ProveOk Y my ss ns (unevAll es N n).length (PairsD ds (unevAll es N n) (unevAll es N n).length (pairOf Y ss ns)) (csum es m lm)

set_option maxRecDepth 100000 in
set_option linter.unusedSimpArgs false in
set_option maxHeartbeats 4000000 in
theorem doubledLook_calls (gb mb xb rb : Nat) (mo : Option Addr) (lm mc : Nat) (m : List Int) (dO : Option Addr) (nd dc : Nat) (ds : List (List Int)) (yo : Option Addr) (my yc : Nat) (Y : List Int) (so : Option Addr) (ns sc : Nat) (ss : Sets) (N : Nat) (ao : Option Addr) (n cap : Nat) (es : List Ed) (w : World) (hG : GBox w gb (N : Int) ao n cap) (hm : w.cell? ⟨mb, 0, none⟩ = some (.slice mo lm mc)) (hx0 : w.cell? ⟨xb, 0, none⟩ = some (.slice dO nd dc)) (hx1 : w.cell? ⟨xb, 1, none⟩ = some (.slice yo my yc)) (hx2 : w.cell? ⟨xb, 2, none⟩ = some (.slice so ns sc)) (r0 : w.cell? ⟨rb, 0, none⟩ = some (.int .i64 0)) (rf : w.frozen? ⟨rb, 0, none⟩ = false) (h : ERow w ao n cap es) (hJ : JRow w mo lm mc m) (hD : LRow w dO nd dc ds) (hY : JRow w yo my yc Y) (hS : DRow w so ns sc ss) (RG : Right N n es) (HPW : ∀ K : Nat, K ≤ 1024 → PairW w yo my yc Y so ns sc ss K (pairOf Y ss ns)) :
    Calls Tryd.prog 79 #[.pointer (some ⟨gb, 0, none⟩), .pointer (some ⟨mb, 0, none⟩), .pointer (some ⟨xb, 0, none⟩), .pointer (some ⟨rb, 0, none⟩)] w fun e w' =>
      (¬ NoMinus es n ∧ e = .panicked [{ v := .iface 140 (.agg #[.int .i64 80]), recovered := false }] ∧ Kept w w') ∨
      (NoMinus es n ∧ DblOk es N n m lm ds nd Y my ss ns ∧ e = .returned (.tuple #[]) ∧ ∃ wx, Kept w wx ∧ w' = wx.setCell ⟨rb, 0, none⟩ (.int .i64 (csum es (allTo n) n + csum es m lm))) ∨
      (NoMinus es n ∧ ¬ DblOk es N n m lm ds nd Y my ss ns ∧ e = .panicked [{ v := .iface 140 (.agg #[.int .i64 221]), recovered := false }] ∧ Kept w w') := by
  obtain ⟨g0, g1⟩ := hG
  have hN := RG.nodes
  have hn := RG.edges
  have hr1 := h.room
  have hm1 := h.most
  have hr2 := hJ.room
  have hm2 := hJ.most
  unfold maxLen at hm1 hm2
  have HE := hid_of h
  have HJ := hid_of hJ
  have HD := hid_of hD
  have HY := hid_of hY
  have HS := hid_of hS
  have RGH := hid_of RG
  have HR0 := hid_of r0
  have HRF := hid_of rf
  have HG0 := hid_of g0
  have HG1 := hid_of g1
  have HMB := hid_of hm
  have HX0 := hid_of hx0
  have HX1 := hid_of hx1
  have HX2 := hid_of hx2
  have PW := hid_of HPW
  have EC := hid_of (every_calls (N : Int) ao n cap hn w)
  clear h hJ hD hY hS RG r0 rf HPW hm hx0 hx1 hx2
  go_enter Tryd.func79, Tryd.ntmps79
  go_wp2_with fail
  refine EC.out.mono ?_
  rintro e wa ⟨oq, rfl, JA, K1⟩
  replace g0 := K1.cell g0
  replace g1 := K1.cell g1
  have HK := hid_of K1
  have JAH := hid_of JA
  clear K1 JA EC
  have HG1a := hid_of g1
  go_wp2_with fail
  go_loopw [6, 14] (fun _ i wr => ∃ (k : Nat), k ≤ n ∧ i = .int .i64 k ∧ Kept wa wr ∧ ∀ j, j < k → 0 ≤ (edAt es j).k) (fun _ i _ => n - (intOf i).toNat)
  case atStart => exact ⟨0, by omega, rfl, Kept.refl _, fun i hi => by omega⟩
  case round =>
    obtain ⟨k, hk, rfl, K, hno⟩ := hrel
    have HNO := hid_of hno
    have KH := hid_of (HK.out.trans K)
    have KAH := hid_of K
    clear hno g0 g1
    by_cases hgo : (k : Int) < (n : Int)
    · obtain ⟨b2, off2, rfl, hc⟩ := (HE.out.kept KH.out).cell (by omega)
      obtain ⟨d1, d2, d3, d4⟩ := hc k (by omega)
      have HIT : Hid (0 ≤ (edAt es k).k → ∀ j, j < k + 1 → 0 ≤ (edAt es j).k) := fun hb j hj => by
        by_cases e : j = k
        · subst e; exact hb
        · exact HNO.out j (by omega)
      have MISS : Hid (¬ 0 ≤ (edAt es k).k → ¬ NoMinus es n) := fun hb t => hb (t k (by omega))
      generalize edAt es k = e at d1 d2 d3 d4 HIT MISS
      obtain ⟨ef, et, ec, ek⟩ := e
      simp only at d1 d2 d3 d4 HIT MISS
      clear hc K
      go_upto_region 4 with fail
      generalize hW : wr.alloc (Obj.cells #[.int .i64 ef, .int .i64 et, .int .i64 ec, .int .i64 ek] 86) = W3
      obtain ⟨EK, a0, a1, a2, a3, -⟩ := edge_box hW
      have K3 := hid_of (KAH.out.trans EK)
      clear d1 d2 d3 d4 EK KH KAH hW
      by_cases hek : 0 ≤ ek
      · have P := hid_of (HIT.out hek)
        have q : decide (0 ≤ ek) = true := decide_eq_true hek
        clear HIT MISS
        go_wp2_with (go_at_call 81; refine (demand_ok _ _).mono ?_; rintro e w' ⟨rfl, rfl⟩)
        go_roundw
        case rel => exact ⟨k + 1, by omega, by go_num, K3.out, P.out⟩
        case measure => simp [intOf]; omega
      · have P := hid_of (MISS.out hek)
        have q : decide (0 ≤ ek) = false := decide_eq_false hek
        clear HIT MISS
        go_wp2_with (go_at_call 81; refine (demand_no _ _).mono ?_; rintro e w' ⟨rfl, rfl⟩)
        exact ⟨rfl, .inl ⟨P.out, rfl, HK.out.trans K3.out⟩⟩
    · obtain rfl : k = n := by omega
      have POS : Hid (NoMinus es k) := HNO.out
      clear HNO hk hgo
      have JA := hid_of (JAH.out.kept KAH.out)
      have g1 := KH.out.cell HG1.out
      have hm := KH.out.cell HMB.out
      clear K KAH JAH HG1a
      go_wp2_with fail
      refine (mustRise_calls mo lm mc m (k : Int) wr (HJ.out.kept KH.out)).mono ?_
      rintro e wb ⟨K2, ⟨ris, rfl⟩ | ⟨ris, rfl⟩⟩
      rotate_left
      · have HK2 := hid_of (KH.out.trans K2)
        clear hm g1 K2
        go_wp2
        exact ⟨rfl, .inr (.inr ⟨POS.out, fun t => ris t.1, rfl, HK2.out⟩)⟩
      have RIS := hid_of ris
      have lmn : lm ≤ 4096 := by have := ris.len_le; omega
      have HK2 := hid_of (KH.out.trans K2)
      have JB := hid_of (JA.out.kept K2)
      clear K2 ris JA KH hm g1
      have g0 := HK2.out.cell HG0.out
      have g1 := HK2.out.cell HG1.out
      have ALR : Hid (∀ j, j < k → 0 ≤ zAt (allTo k) j ∧ zAt (allTo k) j < (k : Int)) := fun j hj => by rw [allTo_at hj]; omega
      have OE := hid_of (oddEnds_calls (some ⟨oq, 0, none⟩) k k (allTo k) N ao k cap es wb JB.out (HE.out.kept HK2.out) RGH.out ALR.out hn)
      go_wp2_with fail
      refine OE.out.mono ?_
      rintro e wc ⟨uo, nu, uc, rfl, JU, K3⟩
      have hnu : nu = (unevAll es N k).length := JU.len
      have nu4 : nu ≤ 1024 := by have := unevTo_len (odTo es (allTo k) k) N; unfold unevAll at hnu; omega
      have UR : Hid (∀ j, j < nu → 0 ≤ zAt (unevAll es N k) j ∧ zAt (unevAll es N k) j < (N : Int)) := fun j hj => unevTo_rng _ N _ (by rw [zAt, List.getD_eq_getElem?_getD, List.getElem?_eq_getElem (by omega), Option.getD_some]; exact List.getElem_mem _)
      have K3H := hid_of K3
      obtain ⟨U, hU⟩ : ∃ U, unevAll es N k = U := ⟨_, rfl⟩
      have DDEF : Hid (DblOk es N k m lm ds nd Y my ss ns ↔ RiseTo m (k : Int) lm ∧ unevTo (odTo es m lm) N = U ∧ MetOk es N k ds nd U nu ∧ ProveOk Y my ss ns nu (PairsD ds U nu (pairOf Y ss ns)) (csum es m lm)) := by
        show DblOk es N k m lm ds nd Y my ss ns ↔ _
        unfold DblOk; rw [hnu, hU]
      rw [show unevTo (odTo es (allTo k) k) N = U from hU] at JU
      rw [hU] at UR
      have JUH := hid_of JU
      have HK3 := hid_of (HK2.out.trans K3)
      obtain ⟨ub, hub⟩ : ∃ ub, wc.heap.size = ub := ⟨_, rfl⟩
      clear OE JU hnu hU K3 g0 g1
      have KB : Kept wc (wc.alloc (Obj.cells #[Value.slice uo nu uc] 25)) := (Kept.refl wc).alloc _
      have u0 : (wc.alloc (Obj.cells #[Value.slice uo nu uc] 25)).cell? ⟨ub, 0, none⟩ = some (Value.slice uo nu uc) := by simp [go_sem, ← hub]
      go_upto_region 8 with fail
      generalize wc.alloc (Obj.cells #[Value.slice uo nu uc] 25) = W4 at KB u0 ⊢
      have HK4 := hid_of (HK3.out.trans KB)
      have JU4 := hid_of (JUH.out.kept KB)
      have JB4 := hid_of (JB.out.kept (K3H.out.trans KB))
      have U0 := hid_of u0
      have hm := HK4.out.cell HMB.out
      have g0 := HK4.out.cell HG0.out
      have g1 := HK4.out.cell HG1.out
      clear KB JUH JB K3H HK3 HK2 hub
      have OD := hid_of (fun w' (K : Kept W4 w') => oddEnds_calls mo lm mc m N ao k cap es w' (HJ.out.kept (HK4.out.trans K)) (HE.out.kept (HK4.out.trans K)) RGH.out (fun j hj => RIS.out.rng hj) lmn)
      by_cases heq : unevTo (odTo es m lm) N = U
      rotate_left
      · have EQ := hid_of (fun w' so' len' sc' (K : Kept W4 w') (J : JRow w' so' len' sc' (unevTo (odTo es m lm) N)) => equal_calls so' len' sc' (unevTo (odTo es m lm) N) uo nu uc U false (fun t => absurd t heq) (fun _ => rfl) w' J (JU4.out.kept K))
        have P : Hid (¬ DblOk es N k m lm ds nd Y my ss ns) := fun t => heq (DDEF.out.1 t).2.1
        clear heq
        go_wp2_with fail
        refine Ord.region [(0, 1), (1, 1), (3, 1), (2, 2), (4, 2), (5, 2)] (fun w' => Kept W4 w') (by kernel_rfl) (by kernel_rfl) (by kernel_rfl) (by kernel_rfl) (fun _ _ d _ _ h => by cases d <;> exact h) ((Kept.refl _).drewN _) ?_
        repeat
          refine Ord.step rfl (fun Ko hK => ?_)
          simp only [Ord.body]
          go_simp
          first
            | (refine hK _ _ ?_; clear hK Ko)
            | (refine ⟨_, fun w' hS => (by have c0 := hS.cell hm; have c1 := hS.cell g0; have c2 := hS.cell g1; have c3 := hS.cell u0; simp only [c0, c1, c2, c3, Result.andThen]; rfl), hK _ _ ?_⟩; clear hK Ko)
            | (go_at_call 82; refine (OD.out _ ((Kept.refl _).drewN _)).mono ?_; rintro e w5 ⟨so', len', sc', rfl, J5, K5⟩; refine ⟨((Kept.refl _).drewN _).trans K5, hK _ _ ?_⟩; clear hK Ko)
            | (go_at_call 83; refine (EQ.out _ _ _ _ (((Kept.refl _).drewN _).trans K5) J5).mono ?_; rintro e w6 ⟨rfl, K6⟩; refine ⟨(((Kept.refl _).drewN _).trans K5).trans K6, hK _ _ ?_⟩; clear hK Ko)
            | (go_at_call 51; refine (must_no _).mono ?_; rintro e w7 ⟨rfl, rfl⟩)
        go_simp
        exact ⟨rfl, .inr (.inr ⟨POS.out, P.out, rfl, HK4.out.trans ((((Kept.refl _).drewN 1).trans K5).trans K6)⟩)⟩
      have EQ := hid_of (fun w' so' len' sc' (K : Kept W4 w') (J : JRow w' so' len' sc' (unevTo (odTo es m lm) N)) => equal_calls so' len' sc' (unevTo (odTo es m lm) N) uo nu uc U true (fun _ => rfl) (fun t => absurd heq t) w' J (JU4.out.kept K))
      have HEQ := hid_of heq
      clear heq
      go_wp2_with fail
      refine Ord.region [(0, 1), (1, 1), (3, 1), (2, 2), (4, 2), (5, 2)] (fun w' => Kept W4 w') (by kernel_rfl) (by kernel_rfl) (by kernel_rfl) (by kernel_rfl) (fun _ _ d _ _ h => by cases d <;> exact h) ((Kept.refl _).drewN _) ?_
      repeat
        refine Ord.step rfl (fun Ko hK => ?_)
        simp only [Ord.body]
        go_simp
        first
          | (refine hK _ _ ?_; clear hK Ko)
          | (refine ⟨_, fun w' hS => (by have c0 := hS.cell hm; have c1 := hS.cell g0; have c2 := hS.cell g1; have c3 := hS.cell u0; simp only [c0, c1, c2, c3, Result.andThen]; rfl), hK _ _ ?_⟩; clear hK Ko)
          | (go_at_call 82; refine (OD.out _ ((Kept.refl _).drewN _)).mono ?_; rintro e w5 ⟨so', len', sc', rfl, J5, K5⟩; refine ⟨((Kept.refl _).drewN _).trans K5, hK _ _ ?_⟩; clear hK Ko)
          | (go_at_call 83; refine (EQ.out _ _ _ _ (((Kept.refl _).drewN _).trans K5) J5).mono ?_; rintro e w6 ⟨rfl, K6⟩; refine ⟨(((Kept.refl _).drewN _).trans K5).trans K6, hK _ _ ?_⟩; clear hK Ko)
          | (go_at_call 51; refine (must_ok _).mono ?_; rintro e w7 ⟨rfl, rfl⟩; refine ⟨(((Kept.refl _).drewN _).trans K5).trans K6, hK _ _ ?_⟩; clear hK Ko)
      refine Ord.done ?_
      have K46 := hid_of ((((Kept.refl W4).drewN 1).trans K5).trans K6)
      have HK6 := hid_of (HK4.out.trans K46.out)
      have JU6 := hid_of (JU4.out.kept K46.out)
      have JB6 := hid_of (JB4.out.kept K46.out)
      replace u0 := K46.out.cell u0
      replace g0 := K46.out.cell g0
      replace g1 := K46.out.cell g1
      have x0 := HK6.out.cell HX0.out
      clear K5 K6 J5 OD EQ hm JU4 JB4
      have MC := hid_of (metric_calls dO nd dc ds uo nu uc U N ao k cap es w6 (HD.out.kept HK6.out) JU6.out (HE.out.kept HK6.out) RGH.out UR.out)
      go_wp2_with fail
      refine MC.out.mono ?_
      rintro e w7 ⟨K7, ⟨met, rfl⟩ | ⟨met, rfl⟩⟩
      rotate_left
      · have HK7 := hid_of (HK6.out.trans K7)
        have P : Hid (¬ DblOk es N k m lm ds nd Y my ss ns) := fun t => met (DDEF.out.1 t).2.2.1
        clear K7 x0 u0 g0 g1 MC met
        go_wp2
        exact ⟨rfl, .inr (.inr ⟨POS.out, P.out, rfl, HK7.out⟩)⟩
      have HK7 := hid_of (HK6.out.trans K7)
      have K47 := hid_of (K46.out.trans K7)
      have JU7 := hid_of (JU6.out.kept K7)
      have JB7 := hid_of (JB6.out.kept K7)
      have HMET := hid_of met
      clear K7 x0 u0 g0 g1 MC met JU6 JB6 HK6 K46
      have u0 := K47.out.cell U0.out
      have g0 := HK7.out.cell HG0.out
      have g1 := HK7.out.cell HG1.out
      have hm := HK7.out.cell HMB.out
      have CC := hid_of (costOf_calls mo lm mc m (N : Int) N ao k cap es w7 (HE.out.kept HK7.out) (HJ.out.kept HK7.out) RGH.out (fun i hi => RIS.out.rng hi) lmn)
      obtain ⟨cb1, cb2⟩ := csum_bd RGH.out (fun i hi => RIS.out.rng hi) lm (Nat.le_refl _)
      obtain ⟨ca1, ca2⟩ := csum_bd RGH.out ALR.out k (Nat.le_refl _)
      have cb1' : -4398046511104 ≤ csum es m lm := by omega
      have cb2' : csum es m lm ≤ 4398046511104 := by omega
      clear cb1 cb2
      go_wp2_with fail
      refine CC.out.mono ?_
      rintro e w8 ⟨rfl, K8⟩
      have HK8 := hid_of (HK7.out.trans K8)
      have JU8 := hid_of (JU7.out.kept K8)
      have JB8 := hid_of (JB7.out.kept K8)
      have U8 := hid_of (K8.cell u0)
      have x0 := HK8.out.cell HX0.out
      have x1 := HK8.out.cell HX1.out
      have x2 := HK8.out.cell HX2.out
      replace u0 := U8.out
      have PC := hid_of (prove_calls nu nu4 yo my yc Y so ns sc ss (csum es m lm) cb1' cb2' 85 #[.pointer (some ⟨ub, 0, none⟩), .pointer (some ⟨xb, 0, none⟩)] (PairsD ds U nu (pairOf Y ss ns)) (pairOf Y ss ns) w8 (HY.out.kept HK8.out) (HS.out.kept HK8.out) (fun _ _ => rfl)
        (fun ok w1 K => PW.out nu nu4 ok w1 (HK8.out.trans K))
        (fun ok wb' w1 K HBB => dblB_calls wb' ub xb (pairOf Y ss ns) N k es dO nd dc ds uo nu uc U w1 hN (K.cell U8.out) ((HK8.out.trans K).cell HX0.out) (JU8.out.kept K) (HD.out.kept (HK8.out.trans K)) HMET.out UR.out HBB))
      obtain ⟨S, hS⟩ : ∃ S, csum es m lm = S := ⟨_, rfl⟩
      obtain ⟨A, hA⟩ : ∃ A, csum es (allTo k) k = A := ⟨_, rfl⟩
      rw [hS] at PC DDEF cb1' cb2' ⊢
      rw [hA] at ca1 ca2
      have HA := hid_of hA
      have HSS := hid_of hS
      clear K8 CC hm hS HK7 JU7 JB7 K47 hA
      have hmf : ∀ (fn : Fn) (first cap : Array Value) (w : World), (Instr.makeFunc fn first cap).run Tryd.prog w = .ok (.func fn first cap) w := fun _ _ _ _ => rfl
      go_wp2_with fail
      refine PC.out.mono ?_
      rintro e w9 ⟨K9, ⟨ok, rfl⟩ | ⟨ok, rfl⟩⟩
      rotate_left
      · have HK9 := hid_of (HK8.out.trans K9)
        have P : Hid (¬ DblOk es N k m lm ds nd Y my ss ns) := fun t => ok (DDEF.out.1 t).2.2.2
        clear K9 x0 x1 x2 u0 g0 g1 PC ok
        go_wp2
        exact ⟨rfl, .inr (.inr ⟨POS.out, P.out, rfl, HK9.out⟩)⟩
      have HK9 := hid_of (HK8.out.trans K9)
      have JB9 := hid_of (JB8.out.kept K9)
      have P := hid_of (DDEF.out.2 ⟨RIS.out, HEQ.out, HMET.out, ok⟩)
      clear K9 x0 x1 x2 u0 g0 g1 PC ok HK8 JB8 JU8 U8
      have g0 := HK9.out.cell HG0.out
      have g1 := HK9.out.cell HG1.out
      have CA := hid_of (costOf_calls (some ⟨oq, 0, none⟩) k k (allTo k) (N : Int) N ao k cap es w9 (HE.out.kept HK9.out) JB9.out RGH.out ALR.out hn)
      rw [HA.out] at CA
      have WR : IntKind.i64.wrap (A + S) = A + S := wrap_id (by omega) (by omega)
      go_wp2_with fail
      refine CA.out.mono ?_
      rintro e wf ⟨rfl, KF⟩
      have HKF := hid_of (HK9.out.trans KF)
      have r1 := HKF.out.cell HR0.out
      have rf1 := (Below.frozen (p := ⟨rb, 0, none⟩) HKF.out (lt_cell HR0.out)).trans HRF.out
      clear KF g0 g1 CA HK9 ca1 ca2 cb1' cb2'
      go_wp2
      exact bodyPost_end (v := .tuple #[]) (by simp [results, Tryd.results79]) rfl (.inr (.inl ⟨POS.out, P.out, rfl, wf, HKF.out, by rw [HA.out, HSS.out]⟩))

open Classical in
/-- What Doubled answers. -/
noncomputable def dblAns (nodes : Int) (es : List Ed) (n : Nat) (m : List Int) (lm : Nat) (ds : List (List Int)) (nd : Nat) (Y : List Int) (my : Nat) (ss : Sets) (ns : Nat) : Int × Int :=
  if (faultOf nodes es).1 ≠ 0 then (0, (faultOf nodes es).1) else if ¬ NoMinus es n then (0, 80) else if DblOk es nodes.toNat n m lm ds nd Y my ss ns then (csum es (allTo n) n + csum es m lm, 0) else (0, 221)

theorem doubled_calls (nodes : Int) (ao : Option Addr) (n cap : Nat) (es : List Ed) (mo : Option Addr) (lm mc : Nat) (m : List Int) (dO : Option Addr) (nd dc : Nat) (ds : List (List Int)) (yo : Option Addr) (my yc : Nat) (Y : List Int) (so : Option Addr) (ns sc : Nat) (ss : Sets) (w : World) (h : ERow w ao n cap es) (hJ : JRow w mo lm mc m) (hD : LRow w dO nd dc ds) (hY : JRow w yo my yc Y) (hS : DRow w so ns sc ss)
    (HPW : ∀ N : Nat, N ≤ 1024 → PairW w yo my yc Y so ns sc ss N (pairOf Y ss ns)) (v code : Int) (hans : Hid (dblAns nodes es n m lm ds nd Y my ss ns = (v, code))) :
    Calls Tryd.prog 35 #[.agg #[.int .i64 nodes, .slice ao n cap], .slice mo lm mc, .agg #[.slice dO nd dc, .slice yo my yc, .slice so ns sc]] w fun e w' => e = .returned (.tuple #[.int .i64 v, .int .i64 code]) ∧ Kept w w' := by
  have ha := hans.out
  unfold dblAns at ha
  refine doubled_wrap nodes ao n cap es mo lm mc dO nd dc yo my yc so ns sc w h v code (fun hc w1 K G a1 a2 a3 a4 r0 rf => ?_) (fun hne => ?_) (fun hc => ?_)
  · rw [if_neg (by simp [hc])] at ha
    obtain ⟨N, rfl, RG⟩ := right_of (fault_zero hc)
    rw [← h.len] at RG
    rw [Int.toNat_natCast] at ha
    refine (doubledLook_calls w.heap.size (w.heap.size + 1) (w.heap.size + 2) (w.heap.size + 3) mo lm mc m dO nd dc ds yo my yc Y so ns sc ss N ao n cap es w1 G a1 a2 a3 a4 r0 rf (h.kept K) (hJ.kept K) (hD.kept K) (hY.kept K) (hS.kept K) RG (fun M hM => (HPW M hM).kept K)).mono fun e w2 hp => ?_
    rcases hp with ⟨ok, h1, h2⟩ | ⟨ok, dbl, h1, wx, Kx, h2⟩ | ⟨ok, dbl, h1, h2⟩
    · rw [if_pos ok] at ha
      obtain ⟨rfl, rfl⟩ := Prod.mk.inj ha
      exact .inr ⟨by decide, rfl, h1, h2⟩
    · rw [if_neg (fun t => t ok), if_pos dbl] at ha
      obtain ⟨rfl, rfl⟩ := Prod.mk.inj ha
      exact .inl ⟨rfl, h1, wx, Kx, h2⟩
    · rw [if_neg (fun t => t ok), if_neg dbl] at ha
      obtain ⟨rfl, rfl⟩ := Prod.mk.inj ha
      exact .inr ⟨by decide, rfl, h1, h2⟩
  · split at ha
    · exact (Prod.mk.inj ha).1.symm
    · split at ha
      · exact (Prod.mk.inj ha).1.symm
      · split at ha
        · exact absurd (Prod.mk.inj ha).2.symm hne
        · exact (Prod.mk.inj ha).1.symm
  · rw [if_pos hc] at ha
    obtain ⟨rfl, rfl⟩ := Prod.mk.inj ha
    exact ⟨rfl, rfl⟩
end Go.Proofs.YtpdppjngbbkbbaaDoor

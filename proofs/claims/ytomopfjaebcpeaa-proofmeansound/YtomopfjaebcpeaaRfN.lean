/- The document's Mean. -/
import Derived.Test.YtomopfjaebcpeaaRfM
namespace Go.Proofs.Ytomopfjaebcpeaa
open Go.RowKit

open Classical in
/-- What the document's Mean answers: the sum, the number of edges, the error's number. -/
noncomputable def meanDoc (nodes : Int) (es : List Ed) (n : Nat) (c : List Int) (L : Nat) (pot : List Int) (mp : Nat) : Int × Int × Int :=
  if (faultOf nodes es).1 ≠ 0 then (0, 0, (faultOf nodes es).1) else if MeanOk es nodes.toNat n c L pot mp then (csum es c L, (L : Int), 0) else (0, 0, 221)

set_option maxRecDepth 100000 in
set_option linter.unusedSimpArgs false in
set_option maxHeartbeats 4000000 in
theorem meanR_calls (nodes : Int) (ao : Option Addr) (n cap : Nat) (es : List Ed) (co : Option Addr) (L cc : Nat) (c : List Int) (po : Option Addr) (mp pc : Nat) (pot : List Int) (w : World) (h : ERow w ao n cap es) (hJ : JRow w co L cc c) (hP : JRow w po mp pc pot) (s l code : Int) (hans : Hid (meanDoc nodes es n c L pot mp = (s, l, code))) :
    Calls Try.prog 23 #[.agg #[.int .i64 nodes, .slice ao n cap], .slice co L cc, .slice po mp pc] w fun e w' => e = .returned (.tuple #[.int .i64 s, .int .i64 l, .int .i64 code]) ∧ Kept w w' := by
  have hr2 := hJ.room
  have hm2 := hJ.most
  have hr3 := hP.room
  have hm3 := hP.most
  have hr4 := h.room
  have hm4 := h.most
  unfold maxLen at hm2 hm3 hm4
  have KW : Kept w (w.alloc (Obj.cells #[.int .i64 nodes, .slice ao n cap] 24)) := (Kept.refl w).alloc _
  have w0 : (w.alloc (Obj.cells #[.int .i64 nodes, .slice ao n cap] 24)).cell? ⟨w.heap.size, 0, none⟩ = some (.int .i64 nodes) := by simp [go_sem]
  have w1 : (w.alloc (Obj.cells #[.int .i64 nodes, .slice ao n cap] 24)).cell? ⟨w.heap.size, 1, none⟩ = some (.slice ao n cap) := by simp [go_sem]
  have HE := hid_of h
  have HJ := hid_of hJ
  have HP := hid_of hP
  have hnot : ∀ (x : Bool) (w : World), (Op.unary .not (.bool x)).run Try.prog w = .ok (.bool (!x)) w := fun _ _ => rfl
  obtain ⟨fc, fa, hf⟩ : ∃ fc fa, faultOf nodes es = (fc, fa) := ⟨_, _, rfl⟩
  have CK := hid_of (checkR_calls nodes ao n cap es _ (h.kept KW) fc fa (hid_of hf))
  replace hans := hans.out
  unfold meanDoc at hans
  clear h hJ hP
  by_cases hne : fc = 0
  rotate_left
  · rw [if_pos (by rw [hf]; exact hne), hf] at hans
    obtain ⟨rfl, e2⟩ := Prod.mk.inj hans
    obtain ⟨rfl, rfl⟩ := Prod.mk.inj e2
    have q : (fc != 0) = true := by simpa using hne
    clear hans e2 hf
    go_enter Try.func23, Try.ntmps23
    go_wp2_with fail
    refine CK.out.mono ?_
    rintro e wa ⟨rfl, K1⟩
    have HK := hid_of (KW.trans K1)
    clear KW K1 CK w0 w1
    go_wp2
    go_returns
    exact ⟨rfl, HK.out⟩
  subst hne
  rw [if_neg (by rw [hf]; simp)] at hans
  have hf0 := fault_zero (show (faultOf nodes es).1 = 0 by rw [hf])
  obtain ⟨N, rfl, RG⟩ := right_of hf0
  rw [← HE.out.len] at RG
  simp only [Int.toNat_natCast] at hans
  have HA := hid_of hans
  have RGH := hid_of RG
  have hN := RG.nodes
  clear hans RG hf hf0
  go_enter Try.func23, Try.ntmps23
  go_wp2_with fail
  refine CK.out.mono ?_
  rintro e wa ⟨rfl, K1⟩
  replace w0 := K1.cell w0
  replace w1 := K1.cell w1
  have HK := hid_of (KW.trans K1)
  clear KW K1 CK
  by_cases ok : CircDoc es n c L
  rotate_left
  · have e := HA.out
    rw [if_neg (fun t => ok ((circ_iff es n c L).1 t.1))] at e
    obtain ⟨rfl, e2⟩ := Prod.mk.inj e
    obtain ⟨rfl, rfl⟩ := Prod.mk.inj e2
    have CC := hid_of (circleR_calls N ao n cap es co L cc c wa (HE.out.kept HK.out) (HJ.out.kept HK.out) RGH.out false (hid_of fun t => absurd t ok) (hid_of fun _ => rfl))
    clear HA e e2 ok
    go_wp2_with fail
    refine CC.out.mono ?_
    rintro e wb ⟨rfl, K2⟩
    have HK2 := hid_of (HK.out.trans K2)
    clear CC K2 HK w0 w1
    go_wp2
    go_returns
    exact ⟨rfl, HK2.out⟩
  have OK := hid_of ((circ_iff es n c L).2 ok)
  have CC := hid_of (circleR_calls N ao n cap es co L cc c wa (HE.out.kept HK.out) (HJ.out.kept HK.out) RGH.out true (hid_of fun _ => rfl) (hid_of fun t => absurd ok t))
  clear ok
  go_wp2_with fail
  refine CC.out.mono ?_
  rintro e wb ⟨rfl, K2⟩
  replace w0 := K2.cell w0
  replace w1 := K2.cell w1
  have HK2 := hid_of (HK.out.trans K2)
  clear CC K2 HK
  go_wp2_with fail
  refine (potsR_calls N (.slice ao n cap) po mp pc pot wb (HP.out.kept HK2.out)).mono ?_
  rintro e wc ⟨K3, ⟨pok, rfl⟩ | ⟨pok, rfl⟩⟩
  rotate_left
  · have e := HA.out
    rw [if_neg (fun t => pok t.2.1)] at e
    obtain ⟨rfl, e2⟩ := Prod.mk.inj e
    obtain ⟨rfl, rfl⟩ := Prod.mk.inj e2
    have HK3 := hid_of (HK2.out.trans K3)
    clear HA e e2 pok K3 HK2 w0 w1
    go_wp2
    go_returns
    exact ⟨rfl, HK3.out⟩
  replace w0 := K3.cell w0
  replace w1 := K3.cell w1
  have HK3 := hid_of (HK2.out.trans K3)
  have POK := hid_of pok
  clear K3 HK2 pok
  obtain rfl : mp = N := POK.out.1
  have hLN := OK.out.most RGH.out
  obtain ⟨s1, s2⟩ := csum_bd RGH.out OK.out.rng L (Nat.le_refl _)
  have s1' : -1073741824 ≤ csum es c L := by omega
  have s2' : csum es c L ≤ 1073741824 := by omega
  have CL := hid_of (costL_calls mp ao n cap es co L cc c wc (HE.out.kept HK3.out) (HJ.out.kept HK3.out) RGH.out OK.out.rng (by omega))
  have OKI : Hid ((∀ i, i < n → csum es c L ≤ (L : Int) * (edAt es i).k + zAt pot (edAt es i).f.toNat - zAt pot (edAt es i).t.toNat) → s = csum es c L ∧ l = (L : Int) ∧ code = 0) := fun t => by
    have e := HA.out
    rw [if_pos ⟨OK.out, POK.out, t⟩] at e
    obtain ⟨rfl, e2⟩ := Prod.mk.inj e
    obtain ⟨rfl, rfl⟩ := Prod.mk.inj e2
    exact ⟨rfl, rfl, rfl⟩
  have NOK : Hid (∀ i, i < n → ¬ csum es c L ≤ (L : Int) * (edAt es i).k + zAt pot (edAt es i).f.toNat - zAt pot (edAt es i).t.toNat → s = 0 ∧ l = 0 ∧ code = 221) := fun i hi t => by
    have e := HA.out
    rw [if_neg (fun q => t (q.2.2 i hi))] at e
    obtain ⟨rfl, e2⟩ := Prod.mk.inj e
    obtain ⟨rfl, rfl⟩ := Prod.mk.inj e2
    exact ⟨rfl, rfl, rfl⟩
  clear s1 s2 HA
  generalize csum es c L = S at CL OKI NOK s1' s2'
  go_wp2_with fail
  refine CL.out.mono ?_
  rintro e wd ⟨rfl, K4⟩
  replace w1 := K4.cell w1
  have HK4 := hid_of (HK3.out.trans K4)
  clear K4 HK3 CL w0
  go_wp2_with fail
  go_loopw [13, 14] (fun i _ wr => ∃ (j : Nat), j ≤ n ∧ i = .int .i64 j ∧ Kept wd wr ∧ ∀ q, q < j → S ≤ (L : Int) * (edAt es q).k + zAt pot (edAt es q).f.toNat - zAt pot (edAt es q).t.toNat) (fun i _ _ => n - (intOf i).toNat)
  case atStart => exact ⟨0, by omega, rfl, Kept.refl _, fun i hi => by omega⟩
  case round =>
    obtain ⟨j, hj, rfl, K, hno⟩ := hrel
    have HNO := hid_of hno
    clear hno
    replace w1 := K.cell w1
    by_cases hgo2 : (j : Int) < (n : Int)
    · obtain ⟨b, off, rfl, hc⟩ := (HE.out.kept (HK4.out.trans K)).cell (by omega)
      obtain ⟨d1, d2, d3, d4⟩ := hc j (by omega)
      obtain ⟨e1, e2, e3, e4⟩ := RGH.out.ends j (by omega)
      obtain ⟨l1, l2⟩ := RGH.out.costs j (by omega)
      obtain ⟨b2, off2, rfl, hc2⟩ := (HP.out.kept (HK4.out.trans K)).at (by omega)
      have d5 := hc2 (edAt es j).f.toNat (by omega)
      have d6 := hc2 (edAt es j).t.toNat (by omega)
      obtain ⟨p1, p2⟩ := POK.out.2 (edAt es j).f.toNat (by omega)
      obtain ⟨p3, p4⟩ := POK.out.2 (edAt es j).t.toNat (by omega)
      clear hc hc2
      have HIT : Hid (S ≤ (L : Int) * (edAt es j).k + zAt pot (edAt es j).f.toNat - zAt pot (edAt es j).t.toNat → ∀ q, q < j + 1 → S ≤ (L : Int) * (edAt es q).k + zAt pot (edAt es q).f.toNat - zAt pot (edAt es q).t.toNat) := fun hb i hi => by
        by_cases e : i = j
        · subst e; exact hb
        · exact HNO.out i (by omega)
      have MISS := hid_of (NOK.out j (by omega))
      obtain ⟨m1, m2⟩ : -1073741824 ≤ (L : Int) * (edAt es j).k ∧ (L : Int) * (edAt es j).k ≤ 1073741824 := by
        have := mul_bd (x := (edAt es j).k) (y := (L : Int)) (X := 1048576) (Y := 1024) (by omega) l1 l2 (by omega) (by omega)
        rw [Int.mul_comm]
        omega
      generalize edAt es j = e at d1 d2 d3 d4 d5 d6 e1 e2 e3 e4 l1 l2 p1 p2 p3 p4 HIT MISS m1 m2
      obtain ⟨ef, et, ec, ek⟩ := e
      simp only at d1 d2 d3 d4 d5 d6 e1 e2 e3 e4 l1 l2 p1 p2 p3 p4 HIT MISS m1 m2
      obtain ⟨fn, rfl⟩ : ∃ fn : Nat, ef = (fn : Int) := ⟨ef.toNat, by omega⟩
      obtain ⟨tn, rfl⟩ : ∃ tn : Nat, et = (tn : Int) := ⟨et.toNat, by omega⟩
      simp only [Int.toNat_natCast] at d5 d6 p1 p2 p3 p4 HIT MISS
      generalize zAt pot fn = x at d5 p1 p2 HIT MISS
      generalize zAt pot tn = y at d6 p3 p4 HIT MISS
      have WR : IntKind.i64.wrap (IntKind.i64.wrap (IntKind.i64.wrap ((L : Int) * ek) - S) + x) = (L : Int) * ek - S + x := by
        rw [wrap_id (x := (L : Int) * ek) (by omega) (by omega), wrap_id (x := (L : Int) * ek - S) (by omega) (by omega), wrap_id (by omega) (by omega)]
      have HIT2 : Hid (¬ (L : Int) * ek - S + x < y → ∀ q, q < j + 1 → S ≤ (L : Int) * (edAt es q).k + zAt pot (edAt es q).f.toNat - zAt pot (edAt es q).t.toNat) := fun t => HIT.out (by omega)
      have MISS2 : Hid ((L : Int) * ek - S + x < y → s = 0 ∧ l = 0 ∧ code = 221) := fun t => MISS.out (by omega)
      clear m1 m2 l1 l2 p1 p2 p3 p4 HIT MISS
      generalize (L : Int) * ek - S + x = tot at WR HIT2 MISS2
      have KE := hid_of (K.alloc (Obj.cells #[.int .i64 (fn : Int), .int .i64 (tn : Int), .int .i64 ec, .int .i64 ek] 98))
      have KA := (Kept.refl wr).alloc (Obj.cells #[.int .i64 (fn : Int), .int .i64 (tn : Int), .int .i64 ec, .int .i64 ek] 98)
      replace d5 := KA.cell d5
      replace d6 := KA.cell d6
      have a0 : (wr.alloc (Obj.cells #[.int .i64 (fn : Int), .int .i64 (tn : Int), .int .i64 ec, .int .i64 ek] 98)).cell? ⟨wr.heap.size, 0, none⟩ = some (.int .i64 (fn : Int)) := by simp [go_sem]
      have a1 : (wr.alloc (Obj.cells #[.int .i64 (fn : Int), .int .i64 (tn : Int), .int .i64 ec, .int .i64 ek] 98)).cell? ⟨wr.heap.size, 1, none⟩ = some (.int .i64 (tn : Int)) := by simp [go_sem]
      have a3 : (wr.alloc (Obj.cells #[.int .i64 (fn : Int), .int .i64 (tn : Int), .int .i64 ec, .int .i64 ek] 98)).cell? ⟨wr.heap.size, 3, none⟩ = some (.int .i64 ek) := by simp [go_sem]
      clear KA K
      go_upto_region 12 with fail
      generalize wr.alloc (Obj.cells #[.int .i64 (fn : Int), .int .i64 (tn : Int), .int .i64 ec, .int .i64 ek] 98) = W2 at KE d5 d6 a0 a1 a3 ⊢
      clear d1 d2 d3 d4
      by_cases hle : tot < y
      · obtain ⟨rfl, rfl, rfl⟩ := MISS2.out hle
        have qd : decide (tot < y) = true := decide_eq_true hle
        clear HIT2 MISS2
        refine Ord.region [(0, 0), (1, 0), (2, 1), (3, 0), (4, 0), (5, 0), (6, 0), (7, 0), (8, 1), (9, 0), (10, 1), (11, 0), (12, 0), (13, 0), (14, 1), (15, 0), (16, 1), (17, 0)] (fun w' => Kept W2 w') (by kernel_rfl) (by kernel_rfl) (by kernel_rfl) (by kernel_rfl) (fun _ _ d _ _ h => by cases d <;> exact h) ((Kept.refl _).drewN _) ?_
        repeat
          refine Ord.step rfl (fun Ko hK => ?_)
          simp only [Ord.body]
          go_simp
          first
            | (refine hK _ _ ?_; clear hK Ko)
            | (refine ⟨_, fun w' hS => (by have c0 := hS.cell d5; have c1 := hS.cell d6; have c2 := hS.cell a0; have c3 := hS.cell a1; have c4 := hS.cell a3; simp only [c0, c1, c2, c3, c4, Result.andThen]; rfl), hK _ _ ?_⟩; clear hK Ko)
            | ((rw [WR]))
        refine Ord.done ?_
        go_wp2
        go_returns
        exact ⟨rfl, HK4.out.trans (KE.out.drewN _)⟩
      · have P := hid_of (HIT2.out hle)
        have qd : decide (tot < y) = false := decide_eq_false hle
        clear HIT2 MISS2
        refine Ord.region [(0, 0), (1, 0), (2, 1), (3, 0), (4, 0), (5, 0), (6, 0), (7, 0), (8, 1), (9, 0), (10, 1), (11, 0), (12, 0), (13, 0), (14, 1), (15, 0), (16, 1), (17, 0)] (fun w' => Kept W2 w') (by kernel_rfl) (by kernel_rfl) (by kernel_rfl) (by kernel_rfl) (fun _ _ d _ _ h => by cases d <;> exact h) ((Kept.refl _).drewN _) ?_
        repeat
          refine Ord.step rfl (fun Ko hK => ?_)
          simp only [Ord.body]
          go_simp
          first
            | (refine hK _ _ ?_; clear hK Ko)
            | (refine ⟨_, fun w' hS => (by have c0 := hS.cell d5; have c1 := hS.cell d6; have c2 := hS.cell a0; have c3 := hS.cell a1; have c4 := hS.cell a3; simp only [c0, c1, c2, c3, c4, Result.andThen]; rfl), hK _ _ ?_⟩; clear hK Ko)
            | ((rw [WR]))
        refine Ord.done ?_
        go_wp2
        go_roundw
        case rel => exact ⟨j + 1, by omega, by go_num, KE.out.drewN _, P.out⟩
        case measure => simp [intOf]; omega
    · obtain rfl : j = n := by omega
      obtain ⟨rfl, rfl, rfl⟩ := OKI.out HNO.out
      have HK5 := hid_of (HK4.out.trans K)
      clear OKI NOK HNO K
      go_wp2
      go_returns
      exact ⟨rfl, HK5.out⟩
end Go.Proofs.Ytomopfjaebcpeaa

/- ProofMeanSound: the mathematics and the walk of the law. -/
import Derived.Test.YtomopfjaebcpeaaProofLoopsWalk
import Derived.Test.YtomopfjaebcpeaaOrderS
namespace Go.Proofs.Ytomopfjaebcpeaa
open Go.RowKit

/-- Where an order exists there is no circle. -/
theorem no_round {es : List Ed} {N n : Nat} {o : List Int} {m : Nat} {c : List Int} {L : Nat} (ha : AcyOk es N n o m) (hc : CircDoc es n c L) : False := by
  have up : ∀ k, k < L → plP o N (frm es c k).toNat < plP o N (frm es c (nxtL L k)).toNat := fun k hk => by
    have r := hc.rng k hk
    have t := ha.2.2 (zAt c k).toNat (by omega)
    have e := hc.link k hk
    rw [← e]
    exact t
  have hp := hc.pos
  have grow : ∀ k : Nat, k < L → plP o N (frm es c 0).toNat + (k : Int) ≤ plP o N (frm es c k).toNat := by
    intro k
    induction k with
    | zero => intro _; omega
    | succ k ih =>
      intro hk
      have h1 := ih (by omega)
      have h2 := up k (by omega)
      rw [nxtL_eq (by omega), if_neg (by omega)] at h2
      omega
  have h1 := grow (L - 1) (by omega)
  have h2 := up (L - 1) (by omega)
  rw [nxtL_eq (by omega), if_pos (by omega)] at h2
  omega

/-- By potentials no circle has a lesser mean. -/
theorem mean_le {es : List Ed} {n : Nat} {pot : List Int} {S : Int} {L : Int} {c : List Int} {L2 : Nat} (hb : ∀ i, i < n → S ≤ L * (edAt es i).k + zAt pot (edAt es i).f.toNat - zAt pot (edAt es i).t.toNat) (hc : CircDoc es n c L2) :
    (L2 : Int) * S ≤ L * csum es c L2 := by
  have hp := hc.pos
  have key : ∀ k : Nat, k ≤ L2 → (k : Int) * S ≤ L * csum es c k + zAt pot (frm es c 0).toNat - zAt pot (frm es c (if k = L2 then 0 else k)).toNat := by
    intro k
    induction k with
    | zero =>
      intro _
      rw [if_neg (by omega)]
      show (0 : Int) * S ≤ L * 0 + _ - _
      rw [Int.zero_mul, Int.mul_zero]
      omega
    | succ k ih =>
      intro hk
      have h1 := ih (by omega)
      rw [if_neg (by omega)] at h1
      have r := hc.rng k (by omega)
      have h2 := hb (zAt c k).toNat (by omega)
      have e : (edAt es (zAt c k).toNat).t = frm es c (nxtL L2 k) := hc.link k (by omega)
      rw [e, nxtL_eq (by omega)] at h2
      have e3 : (edAt es (zAt c k).toNat).f = frm es c k := rfl
      rw [e3] at h2
      rw [csum_succ, Int.mul_add]
      have e2 : ((k + 1 : Nat) : Int) * S = (k : Int) * S + S := by rw [Int.natCast_add, Int.add_mul]; simp
      rw [e2]
      omega
  have := key L2 (Nat.le_refl _)
  rw [if_pos rfl] at this
  omega

theorem order_low {S L p q : Int} (h : Lowest S L p q) (hL : 0 < L) {s2 : Int} {L2 : Int} (h2 : 0 < L2) (hle : L2 * S ≤ L * s2) : ∃ r, ordv p q s2 L2 = (r, 0) ∧ r ≤ 0 := by
  obtain ⟨l1, l2, l3, l4, l5, l6⟩ := h
  have e : ordv p q s2 L2 = (Dg.cmp (p * L2) (s2 * q), 0) := by
    unfold ordv
    rw [if_neg (by omega), if_neg (by omega)]
  refine ⟨_, e, ?_⟩
  have key : p * L2 ≤ s2 * q := by
    refine Int.le_of_mul_le_mul_right (a := L) ?_ hL
    have a1 : p * L2 * L = L2 * S * q := by
      calc p * L2 * L = L2 * (p * L) := by rw [Int.mul_comm p L2, Int.mul_assoc]
        _ = L2 * (S * q) := by rw [l5]
        _ = L2 * S * q := by rw [Int.mul_assoc]
    have a2 : s2 * q * L = L * s2 * q := by rw [Int.mul_comm (s2 * q) L, Int.mul_assoc]
    rw [a1, a2]
    exact Int.mul_le_mul_of_nonneg_right hle (by omega)
  unfold Dg.cmp
  split
  · omega
  · split
    · omega
    · omega

set_option maxRecDepth 100000 in
set_option linter.unusedSimpArgs false in
set_option maxHeartbeats 4000000 in
theorem proofMeanWalk (nodes : Int) (ao : Option Addr) (n cap : Nat) (es : List Ed) (co : Option Addr) (L cc : Nat) (c : List Int) (po : Option Addr) (mp pc : Nat) (pot : List Int) (xo : Option Addr) (L2 xc : Nat) (c2 : List Int) (oo : Option Addr) (m oc : Nat) (o : List Int) (w : World) (h : ERow w ao n cap es) (hJ : JRow w co L cc c) (hP : JRow w po mp pc pot) (hX : JRow w xo L2 xc c2) (hO : JRow w oo m oc o) :
    Calls Try.prog 9 #[.agg #[.int .i64 nodes, .slice ao n cap], .agg #[.slice co L cc, .slice po mp pc], .agg #[.slice xo L2 xc, .slice oo m oc]] w fun e w' => e = .returned (.bool true) ∧ Kept w w' := by
  obtain ⟨z, hno⟩ : ∃ z, acycAns nodes es n o m = z := ⟨_, rfl⟩
  obtain ⟨fc, fa, hf⟩ : ∃ fc fa, faultOf nodes es = (fc, fa) := ⟨_, _, rfl⟩
  have hnot : ∀ (x : Bool) (w : World), (Op.unary .not (.bool x)).run Try.prog w = .ok (.bool (!x)) w := fun _ _ => rfl
  have KW : Kept w (((w.alloc (Obj.cells #[.int .i64 nodes, .slice ao n cap] 24)).alloc (Obj.cells #[.slice co L cc, .slice po mp pc] 45)).alloc (Obj.cells #[.slice xo L2 xc, .slice oo m oc] 73)) := (((Kept.refl w).alloc _).alloc _).alloc _
  have hG : GBox (((w.alloc (Obj.cells #[.int .i64 nodes, .slice ao n cap] 24)).alloc (Obj.cells #[.slice co L cc, .slice po mp pc] 45)).alloc (Obj.cells #[.slice xo L2 xc, .slice oo m oc] 73)) w.heap.size nodes ao n cap := ⟨by simp [go_sem], by simp [go_sem]⟩
  have hF : Box2 (((w.alloc (Obj.cells #[.int .i64 nodes, .slice ao n cap] 24)).alloc (Obj.cells #[.slice co L cc, .slice po mp pc] 45)).alloc (Obj.cells #[.slice xo L2 xc, .slice oo m oc] 73)) (w.heap.size + 1) (.slice co L cc) (.slice po mp pc) := ⟨by simp [go_sem], by simp [go_sem]⟩
  have hXb : Box2 (((w.alloc (Obj.cells #[.int .i64 nodes, .slice ao n cap] 24)).alloc (Obj.cells #[.slice co L cc, .slice po mp pc] 45)).alloc (Obj.cells #[.slice xo L2 xc, .slice oo m oc] 73)) (w.heap.size + 2) (.slice xo L2 xc) (.slice oo m oc) := ⟨by simp [go_sem], by simp [go_sem]⟩
  obtain ⟨g0, g1⟩ := hG
  obtain ⟨f0, f1⟩ := hF
  obtain ⟨x0, x1⟩ := hXb
  have HE := hid_of h
  have HJ := hid_of hJ
  have HP := hid_of hP
  have HX := hid_of hX
  have HO := hid_of hO
  have HN := hid_of hno
  have HF := hid_of hf
  clear h hJ hP hX hO hno hf
  go_enter Try.func9, Try.ntmps9
  go_wp2_with fail
  generalize ((w.alloc (Obj.cells #[.int .i64 nodes, .slice ao n cap] 24)).alloc (Obj.cells #[.slice co L cc, .slice po mp pc] 45)).alloc (Obj.cells #[.slice xo L2 xc, .slice oo m oc] 73) = W1 at KW g0 g1 f0 f1 x0 x1 ⊢
  refine (awake_calls W1).mono ?_
  rintro e wa ⟨rfl, K1⟩
  replace g0 := K1.cell g0
  replace g1 := K1.cell g1
  replace f0 := K1.cell f0
  replace f1 := K1.cell f1
  replace x0 := K1.cell x0
  replace x1 := K1.cell x1
  have HK := hid_of (KW.trans K1)
  clear K1 KW
  go_wp2_with fail
  refine (mean_calls nodes ao n cap es co L cc c po mp pc pot wa (HE.out.kept HK.out) (HJ.out.kept HK.out) (HP.out.kept HK.out)).mono ?_
  rintro e wb ⟨⟨p, q, code, hm, rfl⟩, K2⟩
  have KA : Kept wb (wb.alloc (Obj.cells #[.int .i64 p, .int .i64 q] 47)) := (Kept.refl wb).alloc _
  replace g0 := KA.cell (K2.cell g0)
  replace g1 := KA.cell (K2.cell g1)
  replace x0 := KA.cell (K2.cell x0)
  replace x1 := KA.cell (K2.cell x1)
  obtain ⟨rb, hrb⟩ : ∃ rb, wb.heap.size = rb := ⟨_, rfl⟩
  have r0 : (wb.alloc (Obj.cells #[.int .i64 p, .int .i64 q] 47)).cell? ⟨rb, 0, none⟩ = some (.int .i64 p) := by simp [go_sem, ← hrb]
  have r1 : (wb.alloc (Obj.cells #[.int .i64 p, .int .i64 q] 47)).cell? ⟨rb, 1, none⟩ = some (.int .i64 q) := by simp [go_sem, ← hrb]
  have HK2 := hid_of ((HK.out.trans K2).trans KA)
  have HM := hid_of hm
  clear K2 HK KA hm f0 f1
  go_wp2_with fail
  generalize wb.alloc (Obj.cells #[.int .i64 p, .int .i64 q] 47) = W2 at g0 g1 x0 x1 r0 r1 HK2 ⊢
  clear hrb
  refine (acyc_calls nodes ao n cap es oo m oc o W2 (HE.out.kept HK2.out) (HO.out.kept HK2.out) z HN).mono ?_
  rintro e wc ⟨rfl, K3⟩
  replace g0 := K3.cell g0
  replace g1 := K3.cell g1
  replace x0 := K3.cell x0
  replace r0 := K3.cell r0
  replace r1 := K3.cell r1
  have HK3 := hid_of (HK2.out.trans K3)
  clear K3 HK2 x1
  go_wp2_with fail
  refine (checkR_calls nodes ao n cap es wc (HE.out.kept HK3.out) fc fa HF).mono ?_
  rintro e wd ⟨rfl, K4⟩
  replace g0 := K4.cell g0
  replace g1 := K4.cell g1
  replace x0 := K4.cell x0
  replace r0 := K4.cell r0
  replace r1 := K4.cell r1
  have HK4 := hid_of (HK3.out.trans K4)
  clear K4 HK3
  by_cases hne : fc = 0
  rotate_left
  · have hfne : (faultOf nodes es).1 ≠ 0 := by rw [HF.out]; exact hne
    obtain ⟨rfl, rfl, rfl⟩ : p = 0 ∧ q = 0 ∧ code = fc := by
      rcases HM.out with ⟨_, h1, h2, h3⟩ | ⟨h1, _⟩
      · exact ⟨h1, h2, by rw [h3, HF.out]⟩
      · exact absurd h1 hfne
    obtain rfl : z = code := by
      have e := HN.out
      unfold acycAns at e
      rw [if_pos hfne, HF.out] at e
      exact e.symm
    have q1 : (z == 0) = false := by simpa using hne
    have q2 : (z != 0) = true := by simpa using hne
    clear HM HN HF hfne hne
    go_wp2
    go_ret
    exact ⟨rfl, HK4.out⟩
  subst hne
  have hf0 := fault_zero (show (faultOf nodes es).1 = 0 by rw [HF.out])
  obtain ⟨N, rfl, RG⟩ := right_of hf0
  rw [← HE.out.len] at RG
  have RGH := hid_of RG
  have HZ : Hid (z = 0 → AcyOk es N n o m) := fun hz => by
    have e := HN.out
    unfold acycAns at e
    rw [if_neg (by rw [hf0]; simp)] at e
    split at e
    · rename_i t; simpa using t
    · omega
  have HC : Hid ((code ≠ 0 ∧ p = 0 ∧ q = 0) ∨ (code = 0 ∧ MeanOk es N n c L pot mp ∧ Lowest (csum es c L) (L : Int) p q)) := by
    rcases HM.out with ⟨h1, _⟩ | ⟨_, ⟨h1, h2, h3⟩ | ⟨_, h1, h2, h3⟩⟩
    · rw [hf0] at h1; exact absurd rfl h1
    · exact .inr ⟨h3, by simpa using h1, h2⟩
    · exact .inl ⟨by omega, h1, h2⟩
  clear HM HN HF hf0 RG
  have hN := RGH.out.nodes
  have hcirc : ∃ zb : Bool, (zb = true → CircDoc es n c2 L2) ∧ (CircDoc es n c2 L2 → zb = true) ∧ (¬ CircDoc es n c2 L2 → zb = false) := by
    by_cases t : CircDoc es n c2 L2
    · exact ⟨true, fun _ => t, fun _ => rfl, fun f => absurd t f⟩
    · exact ⟨false, (fun e => absurd e (by decide)), (fun f => absurd f t), fun _ => rfl⟩
  obtain ⟨zb, hz1, hz2, hz3⟩ := hcirc
  have HZB := hid_of hz1
  have CC := hid_of (fun w' (K : Kept wd w') => circleR_calls N ao n cap es xo L2 xc c2 w' (HE.out.kept (HK4.out.trans K)) (HX.out.kept (HK4.out.trans K)) RGH.out zb (hid_of hz2) (hid_of hz3))
  clear hz1 hz2 hz3
  go_wp2_with fail
  refine (CC.out _ (Kept.refl _)).mono ?_
  rintro e we ⟨rfl, K5⟩
  replace g0 := K5.cell g0
  replace g1 := K5.cell g1
  replace x0 := K5.cell x0
  replace r0 := K5.cell r0
  replace r1 := K5.cell r1
  have HK5 := hid_of (HK4.out.trans K5)
  clear K5 HK4 CC
  by_cases hc : code = 0
  rotate_left
  · obtain ⟨rfl, rfl⟩ : p = 0 ∧ q = 0 := by
      rcases HC.out with t | t
      · exact t.2
      · exact absurd t.1 hc
    have qc : (code == 0) = false := by simpa using hc
    have qc2 : (code != 0) = true := by simpa using hc
    by_cases hz : z = 0
    · have hzb : zb = false := by
        cases e : zb
        · rfl
        · exact absurd (no_round (HZ.out hz) (HZB.out e)) id
      subst hz hzb
      clear HC hc HZ HZB
      go_wp2
      go_ret
      exact ⟨rfl, HK5.out⟩
    · have qz : (z == 0) = false := by simpa using hz
      clear HC hc HZ HZB hz
      go_wp2
      go_ret
      exact ⟨rfl, HK5.out⟩
  subst hc
  obtain ⟨mok, low⟩ : MeanOk es N n c L pot mp ∧ Lowest (csum es c L) (L : Int) p q := by
    rcases HC.out with t | t
    · exact absurd rfl t.1
    · exact t.2
  have hz : z ≠ 0 := fun t => no_round (HZ.out t) ((circ_iff es n c L).1 mok.1)
  have qz : (z == 0) = false := by simpa using hz
  cases zb with
  | false =>
    clear HC HZ HZB hz mok low
    go_wp2
    go_ret
    exact ⟨rfl, HK5.out⟩
  | true =>
    have cd : CircDoc es n c2 L2 := HZB.out rfl
    have ok2 := (circ_iff es n c2 L2).2 cd
    have hL2 := ok2.most RGH.out
    have hL2p := ok2.pos
    have hLp := mok.1.pos
    obtain ⟨s1, s2⟩ := csum_bd RGH.out ok2.rng L2 (Nat.le_refl _)
    obtain ⟨rr, hord, hr0⟩ := order_low low (by omega) (L2 := (L2 : Int)) (by omega) (mean_le mok.2.2 cd)
    have b1 : -9223372036854775808 ≤ csum es c2 L2 := by omega
    have b2 : csum es c2 L2 ≤ 9223372036854775807 := by omega
    obtain ⟨l1, l2, l3, l4, l5, l6⟩ := low
    have CL := hid_of (fun w' (K : Kept we w') => costL_calls N ao n cap es xo L2 xc c2 w' (HE.out.kept (HK5.out.trans K)) (HX.out.kept (HK5.out.trans K)) RGH.out ok2.rng (by omega))
    have CO := hid_of (fun w' => orderP_calls p q (csum es c2 L2) (L2 : Int) w' l3 l4 (by omega) l2 b1 b2 (by omega) (by omega) rr 0 (hid_of hord))
    have qr : decide (rr ≤ 0) = true := decide_eq_true hr0
    clear HC HZ HZB hz mok l1 l2 l3 l4 l5 l6 s1 s2 b1 b2 hord cd ok2 hr0
    generalize csum es c2 L2 = s2 at CL CO
    go_wp2_with fail
    refine Ord.region [(0, 0), (1, 1), (2, 0), (3, 1), (4, 1), (5, 0), (6, 1), (8, 0), (9, 1), (10, 0), (7, 2), (11, 2), (12, 0), (13, 0), (14, 0), (15, 0), (16, 0)] (fun w' => Kept we w') (by kernel_rfl) (by kernel_rfl) (by kernel_rfl) (by kernel_rfl) (fun _ _ d _ _ h => by cases d <;> exact h) ((Kept.refl _).drewN _) ?_
    repeat
      refine Ord.step rfl (fun Ko hK => ?_)
      simp only [Ord.body]
      go_simp
      first
        | (refine hK _ _ ?_; clear hK Ko)
        | (refine ⟨_, fun w' hS => (by have c0 := hS.cell g0; have c1 := hS.cell g1; have c2 := hS.cell x0; have c3 := hS.cell r0; have c4 := hS.cell r1; simp only [c0, c1, c2, c3, c4, Result.andThen]; rfl), hK _ _ ?_⟩; clear hK Ko)
        | (go_at_call 38; refine (CL.out _ ((Kept.refl _).drewN _)).mono ?_; rintro e w5 ⟨rfl, K6⟩; refine ⟨((Kept.refl _).drewN _).trans K6, hK _ _ ?_⟩; clear hK Ko)
        | (go_at_call 37; refine (CO.out _).mono ?_; rintro e w6 ⟨rfl, K7⟩; refine ⟨(((Kept.refl _).drewN _).trans K6).trans K7, hK _ _ ?_⟩; clear hK Ko)
    refine Ord.done ?_
    have HK6 := hid_of (HK5.out.trans ((((Kept.refl _).drewN _).trans K6).trans K7))
    clear K6 K7 CL CO g0 g1 x0 r0 r1
    go_wp2
    go_ret
    exact ⟨rfl, HK6.out⟩
end Go.Proofs.Ytomopfjaebcpeaa

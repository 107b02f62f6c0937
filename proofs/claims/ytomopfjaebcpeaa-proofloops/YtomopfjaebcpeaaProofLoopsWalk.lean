/- ProofLoops: the walk of the law. -/
import Derived.Test.YtomopfjaebcpeaaPrS
import Derived.Test.YtomopfjaebcpeaaRfN
namespace Go.Proofs.Ytomopfjaebcpeaa
open Go.RowKit

/-- The program's Mean against the document's. -/
theorem mean_match {nodes : Int} {es : List Ed} {n : Nat} {c : List Int} {L : Nat} {pot : List Int} {mp : Nat} {p q code s l code2 : Int} (h : MeanAns nodes es n c L pot mp p q code) (hd : meanDoc nodes es n c L pot mp = (s, l, code2)) :
    code2 = code ∧ ((code ≠ 0 ∧ p = 0 ∧ q = 0) ∨ (code = 0 ∧ Lowest s l p q)) := by
  unfold meanDoc at hd
  rcases h with ⟨hc, rfl, rfl, rfl⟩ | ⟨hc, ⟨ok, low, rfl⟩ | ⟨nok, rfl, rfl, rfl⟩⟩
  · rw [if_pos hc] at hd
    obtain ⟨-, e2⟩ := Prod.mk.inj hd
    obtain ⟨-, rfl⟩ := Prod.mk.inj e2
    exact ⟨rfl, .inl ⟨hc, rfl, rfl⟩⟩
  · rw [if_neg (by simp [hc]), if_pos ok] at hd
    obtain ⟨rfl, e2⟩ := Prod.mk.inj hd
    obtain ⟨rfl, rfl⟩ := Prod.mk.inj e2
    exact ⟨rfl, .inr ⟨rfl, low⟩⟩
  · rw [if_neg (by simp [hc]), if_neg nok] at hd
    obtain ⟨-, e2⟩ := Prod.mk.inj hd
    obtain ⟨-, rfl⟩ := Prod.mk.inj e2
    exact ⟨rfl, .inl ⟨by decide, rfl, rfl⟩⟩

set_option maxRecDepth 100000 in
set_option linter.unusedSimpArgs false in
set_option maxHeartbeats 2000000 in
theorem proofLoopsWalk (nodes : Int) (ao : Option Addr) (n cap : Nat) (es : List Ed) (co : Option Addr) (L cc : Nat) (c : List Int) (po : Option Addr) (mp pc : Nat) (pot : List Int) (oo : Option Addr) (m oc : Nat) (o : List Int) (w : World) (h : ERow w ao n cap es) (hJ : JRow w co L cc c) (hP : JRow w po mp pc pot) (hO : JRow w oo m oc o) :
    Calls Try.prog 5 #[.agg #[.int .i64 nodes, .slice ao n cap], .agg #[.slice co L cc, .slice po mp pc], .slice oo m oc] w fun e w' => e = .returned (.bool true) ∧ Kept w w' := by
  obtain ⟨s, l, code2, hdoc⟩ : ∃ s l code2, meanDoc nodes es n c L pot mp = (s, l, code2) := ⟨_, _, _, rfl⟩
  obtain ⟨z, hno⟩ : ∃ z, acycAns nodes es n o m = z := ⟨_, rfl⟩
  have hnot : ∀ (x : Bool) (w : World), (Op.unary .not (.bool x)).run Try.prog w = .ok (.bool (!x)) w := fun _ _ => rfl
  have KW : Kept w ((w.alloc (Obj.cells #[.int .i64 nodes, .slice ao n cap] 24)).alloc (Obj.cells #[.slice co L cc, .slice po mp pc] 45)) := ((Kept.refl w).alloc _).alloc _
  have hG : GBox ((w.alloc (Obj.cells #[.int .i64 nodes, .slice ao n cap] 24)).alloc (Obj.cells #[.slice co L cc, .slice po mp pc] 45)) w.heap.size nodes ao n cap := ⟨by simp [go_sem], by simp [go_sem]⟩
  have hF : Box2 ((w.alloc (Obj.cells #[.int .i64 nodes, .slice ao n cap] 24)).alloc (Obj.cells #[.slice co L cc, .slice po mp pc] 45)) (w.heap.size + 1) (.slice co L cc) (.slice po mp pc) := ⟨by simp [go_sem], by simp [go_sem]⟩
  obtain ⟨g0, g1⟩ := hG
  obtain ⟨f0, f1⟩ := hF
  have HE := hid_of h
  have HJ := hid_of hJ
  have HP := hid_of hP
  have HO := hid_of hO
  have HD := hid_of hdoc
  have HN := hid_of hno
  clear h hJ hP hO hdoc hno
  go_enter Try.func5, Try.ntmps5
  go_wp2_with fail
  generalize (w.alloc (Obj.cells #[.int .i64 nodes, .slice ao n cap] 24)).alloc (Obj.cells #[.slice co L cc, .slice po mp pc] 45) = W1 at KW g0 g1 f0 f1 ⊢
  refine (awake_calls W1).mono ?_
  rintro e wa ⟨rfl, K1⟩
  replace g0 := K1.cell g0
  replace g1 := K1.cell g1
  replace f0 := K1.cell f0
  replace f1 := K1.cell f1
  have HK := hid_of (KW.trans K1)
  clear K1 KW
  go_wp2_with fail
  refine (mean_calls nodes ao n cap es co L cc c po mp pc pot wa (HE.out.kept HK.out) (HJ.out.kept HK.out) (HP.out.kept HK.out)).mono ?_
  rintro e wb ⟨⟨p, q, code, hm, rfl⟩, K2⟩
  obtain ⟨rfl, hcase⟩ := mean_match hm HD.out
  have KA : Kept wb (wb.alloc (Obj.cells #[.int .i64 p, .int .i64 q] 47)) := (Kept.refl wb).alloc _
  replace g0 := KA.cell (K2.cell g0)
  replace g1 := KA.cell (K2.cell g1)
  replace f0 := KA.cell (K2.cell f0)
  replace f1 := KA.cell (K2.cell f1)
  obtain ⟨rb, hrb⟩ : ∃ rb, wb.heap.size = rb := ⟨_, rfl⟩
  have r0 : (wb.alloc (Obj.cells #[.int .i64 p, .int .i64 q] 47)).cell? ⟨rb, 0, none⟩ = some (.int .i64 p) := by simp [go_sem, ← hrb]
  have r1 : (wb.alloc (Obj.cells #[.int .i64 p, .int .i64 q] 47)).cell? ⟨rb, 1, none⟩ = some (.int .i64 q) := by simp [go_sem, ← hrb]
  have HK2 := hid_of ((HK.out.trans K2).trans KA)
  have HCASE := hid_of hcase
  clear K2 HK KA hm hcase
  go_wp2_with fail
  generalize wb.alloc (Obj.cells #[.int .i64 p, .int .i64 q] 47) = W2 at g0 g1 f0 f1 r0 r1 HK2 ⊢
  clear hrb
  refine (meanR_calls nodes ao n cap es co L cc c po mp pc pot W2 (HE.out.kept HK2.out) (HJ.out.kept HK2.out) (HP.out.kept HK2.out) s l code2 HD).mono ?_
  rintro e wc ⟨rfl, K3⟩
  replace g0 := K3.cell g0
  replace g1 := K3.cell g1
  replace r0 := K3.cell r0
  replace r1 := K3.cell r1
  have HK3 := hid_of (HK2.out.trans K3)
  have CN := hid_of (fun w' (K : Kept wc w') => acyc_calls nodes ao n cap es oo m oc o w' (HE.out.kept (HK3.out.trans K)) (HO.out.kept (HK3.out.trans K)) z HN)
  have CM := hid_of (fun w' (K : Kept wc w') => acycR_calls nodes ao n cap es oo m oc o w' (HE.out.kept (HK3.out.trans K)) (HO.out.kept (HK3.out.trans K)) z HN)
  clear K3 HK2 f0 f1
  have q2 : (code2 != code2) = false := by simp
  have q3 : (z != z) = false := by simp
  go_wp2_with fail
  refine Ord.region [(0, 0), (1, 0), (2, 0), (3, 0), (4, 1), (5, 0), (7, 1), (8, 0), (6, 2), (9, 2), (10, 0), (11, 0)] (fun w' => Kept wc w') (by kernel_rfl) (by kernel_rfl) (by kernel_rfl) (by kernel_rfl) (fun _ _ d _ _ h => by cases d <;> exact h) ((Kept.refl _).drewN _) ?_
  repeat
    refine Ord.step rfl (fun Ko hK => ?_)
    simp only [Ord.body]
    go_simp
    first
      | (refine hK _ _ ?_; clear hK Ko)
      | (refine ⟨_, fun w' hS => (by have c0 := hS.cell g0; have c1 := hS.cell g1; simp only [c0, c1, Result.andThen]; rfl), hK _ _ ?_⟩; clear hK Ko)
      | (go_at_call 24; refine (CN.out _ ((Kept.refl _).drewN _)).mono ?_; rintro e w5 ⟨rfl, K5⟩; refine ⟨((Kept.refl _).drewN _).trans K5, hK _ _ ?_⟩; clear hK Ko)
      | (go_at_call 25; refine (CM.out _ (((Kept.refl _).drewN _).trans K5)).mono ?_; rintro e w6 ⟨rfl, K6⟩; refine ⟨(((Kept.refl _).drewN _).trans K5).trans K6, hK _ _ ?_⟩; clear hK Ko)
  refine Ord.done ?_
  have K7 : Kept wc w6 := (((Kept.refl _).drewN _).trans K5).trans K6
  replace r0 := K7.cell r0
  replace r1 := K7.cell r1
  have HK6 := hid_of (HK3.out.trans K7)
  clear K5 K6 K7 CN CM g0 g1
  by_cases hc : code2 = 0
  rotate_left
  · obtain ⟨rfl, rfl⟩ : p = 0 ∧ q = 0 := by
      rcases HCASE.out with t | t
      · exact t.2
      · exact absurd t.1 hc
    have qc : (code2 != 0) = true := by simpa using hc
    clear HCASE hc HD
    go_wp2
    go_ret
    exact ⟨rfl, HK6.out⟩
  subst hc
  obtain ⟨l1, l2, l3, l4, l5, l6⟩ : Lowest s l p q := by
    rcases HCASE.out with t | t
    · exact absurd rfl t.1
    · exact t.2
  have qd : decide (0 < q) = true := decide_eq_true l1
  obtain ⟨Y, hY⟩ : ∃ Y, IntKind.i64.wrap (p * l) = Y := ⟨_, rfl⟩
  have hY2 : IntKind.i64.wrap (s * q) = Y := by rw [← l5]; exact hY
  have qy : (Y == Y) = true := by simp
  have GC := hid_of (fun w' => gcd_calls p q w' l3 l4 (by omega) l2)
  have HG : ((Int.gcd p q : Nat) : Int) = 1 := by rw [l6]; rfl
  clear HCASE HD l5 l6 l3 l4 l2
  go_wp2_with (go_at_call 26; refine (GC.out _).mono ?_; rintro e w7 ⟨rfl, k7, rfl⟩; rw [HG])
  go_ret
  exact ⟨rfl, HK6.out.drewN _⟩
end Go.Proofs.Ytomopfjaebcpeaa

/- The document's Covered. -/
import Derived.Test.YtkpfnkpkmbfajaaDoorVqL
import Derived.Test.YtkpfnkpkmbfajaaDoorVqS
namespace Go.Proofs.YtkpfnkpkmbfajaaDoor
open Go.RowKit

theorem covAns_mat {nodes : Int} {es : List Ed} {n : Nat} {m : List Int} {lm : Nat} {x : List Int} {lx : Nat} (h : matAns nodes es n m lm ≠ 0) : covAns nodes es n m lm x lx = (0, matAns nodes es n m lm) := by
  unfold matAns at h ⊢
  unfold covAns
  split
  · rfl
  · rename_i t
    rw [if_neg t] at h
    split at h
    · omega
    · rename_i u
      rw [if_neg (fun v => u v.1), if_neg u]
theorem hvyAns_mat {nodes : Int} {es : List Ed} {n : Nat} {m : List Int} {lm : Nat} {x : List Int} {lx : Nat} (h : matAns nodes es n m lm ≠ 0) : hvyAns nodes es n m lm x lx = (0, matAns nodes es n m lm) := by
  unfold matAns at h ⊢
  unfold hvyAns
  split
  · rfl
  · rename_i t
    rw [if_neg t] at h
    split at h
    · omega
    · rename_i u
      rw [if_neg (fun v => u v.1), if_neg u]

set_option maxRecDepth 100000 in
set_option linter.unusedSimpArgs false in
set_option maxHeartbeats 4000000 in
theorem coveredR_calls (nodes : Int) (ao : Option Addr) (n cap : Nat) (es : List Ed) (mo : Option Addr) (lm mc : Nat) (m : List Int) (xo : Option Addr) (lx xc : Nat) (x : List Int) (w : World) (h : ERow w ao n cap es) (hJ : JRow w mo lm mc m) (hX : JRow w xo lx xc x) (v code : Int) (hans : Hid (covAns nodes es n m lm x lx = (v, code))) :
    Calls Tryd.prog 18 #[.agg #[.int .i64 nodes, .slice ao n cap], .slice mo lm mc, .slice xo lx xc] w fun e w' => e = .returned (.tuple #[.int .i64 v, .int .i64 code]) ∧ Kept w w' := by
  have hnot : ∀ (x : Bool) (w : World), (Op.unary .not (.bool x)).run Tryd.prog w = .ok (.bool (!x)) w := fun _ _ => rfl
  obtain ⟨z, A3⟩ : ∃ z, matAns nodes es n m lm = z := ⟨_, rfl⟩
  have hr1 := hJ.room
  have hm1 := hJ.most
  have hr2 := hX.room
  have hm2 := hX.most
  unfold maxLen at hm1 hm2
  have KW : Kept w (w.alloc (Obj.cells #[.int .i64 nodes, .slice ao n cap] 24)) := (Kept.refl w).alloc _
  have w0 : (w.alloc (Obj.cells #[.int .i64 nodes, .slice ao n cap] 24)).cell? ⟨w.heap.size, 0, none⟩ = some (.int .i64 nodes) := by simp [go_sem]
  have w1 : (w.alloc (Obj.cells #[.int .i64 nodes, .slice ao n cap] 24)).cell? ⟨w.heap.size, 1, none⟩ = some (.slice ao n cap) := by simp [go_sem]
  have HE := hid_of h
  have HJ := hid_of hJ
  have HX := hid_of hX
  have HA3 := hid_of A3
  clear h hJ hX A3
  go_enter Tryd.func18, Tryd.ntmps18
  go_wp2_with fail
  generalize w.alloc (Obj.cells #[.int .i64 nodes, .slice ao n cap] 24) = W1 at KW w0 w1 ⊢
  refine (matchingR_calls nodes ao n cap es mo lm mc m W1 (HE.out.kept KW) (HJ.out.kept KW) z HA3).mono ?_
  rintro e wa ⟨rfl, K1⟩
  have K := hid_of (KW.trans K1)
  replace w0 := K1.cell w0
  replace w1 := K1.cell w1
  clear K1 KW
  by_cases hz : z = 0
  rotate_left
  · have e := hans.out
    rw [covAns_mat (by rw [HA3.out]; exact hz), HA3.out] at e
    obtain ⟨rfl, rfl⟩ := Prod.mk.inj e
    have q : (z != 0) = true := by simpa using hz
    clear hz e hans HA3 w0 w1
    go_wp2
    go_ret2
    exact ⟨rfl, K.out⟩
  subst hz
  obtain ⟨hf, MOK⟩ := matAns_ok HA3.out
  obtain ⟨N, rfl, RG⟩ := right_of (fault_zero hf)
  rw [← HE.out.len] at RG
  have RGH := hid_of RG
  have MH := hid_of MOK
  have ANS : Hid ((CovOk es N n m lm x lx → v = (lm : Int) ∧ code = 0) ∧ (¬ CovOk es N n m lm x lx → v = 0 ∧ code = 221)) := by
    have e := hans.out
    unfold covAns at e
    rw [if_neg (by simp [hf]), Int.toNat_natCast] at e
    refine ⟨fun t => ?_, fun t => ?_⟩
    · rw [if_pos t] at e
      obtain ⟨rfl, rfl⟩ := Prod.mk.inj e
      exact ⟨rfl, rfl⟩
    · rw [if_neg t] at e
      obtain ⟨rfl, rfl⟩ := Prod.mk.inj e
      exact ⟨rfl, rfl⟩
  clear hans hf MOK RG HA3
  go_wp2_with fail
  refine (risingR_calls xo lx xc x (N : Int) wa (HX.out.kept K.out)).mono ?_
  rintro e wb ⟨K2, ⟨ris, rfl⟩ | ⟨ris, rfl⟩⟩
  rotate_left
  · obtain ⟨rfl, rfl⟩ := ANS.out.2 (fun t => ris t.2.1)
    replace K := hid_of (K.out.trans K2)
    clear K2 w0 w1 ris ANS
    go_wp2
    go_ret2
    exact ⟨rfl, K.out⟩
  replace K := hid_of (K.out.trans K2)
  replace w0 := K2.cell w0
  replace w1 := K2.cell w1
  have RIS := hid_of ris
  clear K2 ris
  go_wp2_with fail
  refine (coversR_calls N ao n cap es xo lx xc x wb (HE.out.kept K.out) (HX.out.kept K.out) RGH.out).mono ?_
  rintro e wc ⟨K2, ⟨cov, rfl⟩ | ⟨cov, rfl⟩⟩
  rotate_left
  · obtain ⟨rfl, rfl⟩ := ANS.out.2 (fun t => cov t.2.2.2)
    replace K := hid_of (K.out.trans K2)
    clear K2 w0 w1 cov ANS
    go_wp2
    go_ret2
    exact ⟨rfl, K.out⟩
  replace K := hid_of (K.out.trans K2)
  have COV := hid_of cov
  clear K2 cov w0 w1
  by_cases hl : lm = lx
  · obtain ⟨rfl, rfl⟩ := ANS.out.1 ⟨MH.out, RIS.out, hl.symm, COV.out⟩
    have q : ((lm : Int) != (lx : Int)) = false := by simp; omega
    clear ANS hl
    go_wp2
    go_ret2
    exact ⟨rfl, K.out⟩
  · obtain ⟨rfl, rfl⟩ := ANS.out.2 (fun t => hl t.2.2.1.symm)
    have q : ((lm : Int) != (lx : Int)) = true := by simp; omega
    clear ANS
    go_wp2
    go_ret2
    exact ⟨rfl, K.out⟩
end Go.Proofs.YtkpfnkpkmbfajaaDoor

/- The document's Matching. -/
import Derived.Test.YtkpfnkpkmbfajaaDoorVqI
namespace Go.Proofs.YtkpfnkpkmbfajaaDoor
open Go.RowKit

set_option maxRecDepth 100000 in
set_option linter.unusedSimpArgs false in
set_option maxHeartbeats 4000000 in
theorem matchingR_calls (nodes : Int) (ao : Option Addr) (n cap : Nat) (es : List Ed) (co : Option Addr) (L cc : Nat) (c : List Int) (w : World) (h : ERow w ao n cap es) (hJ : JRow w co L cc c) (z : Int) (hz : Hid (matAns nodes es n c L = z)) :
    Calls Tryd.prog 22 #[.agg #[.int .i64 nodes, .slice ao n cap], .slice co L cc] w fun r w' => r = .returned (.int .i64 z) ∧ Kept w w' := by
  have hnot : ∀ (x : Bool) (w : World), (Op.unary .not (.bool x)).run Tryd.prog w = .ok (.bool (!x)) w := fun _ _ => rfl
  obtain ⟨fc, fa, hf⟩ : ∃ c a, faultOf nodes es = (c, a) := ⟨_, _, rfl⟩
  have hz' := hz.out
  unfold matAns at hz'
  have KW : Kept w (w.alloc (Obj.cells #[.int .i64 nodes, .slice ao n cap] 24)) := (Kept.refl w).alloc _
  have w0 : (w.alloc (Obj.cells #[.int .i64 nodes, .slice ao n cap] 24)).cell? ⟨w.heap.size, 0, none⟩ = some (.int .i64 nodes) := by simp [go_sem]
  have w1 : (w.alloc (Obj.cells #[.int .i64 nodes, .slice ao n cap] 24)).cell? ⟨w.heap.size, 1, none⟩ = some (.slice ao n cap) := by simp [go_sem]
  have CH := hid_of (checkR_calls nodes ao n cap es _ (h.kept KW) fc fa (hid_of hf))
  have HE := hid_of h
  have HJ := hid_of hJ
  have HLN := hid_of h.len
  clear h hJ hz
  by_cases hc : fc = 0
  rotate_left
  · rw [if_pos (by rw [hf]; exact hc), hf] at hz'
    subst hz'
    have q : (fc == 0) = false := by simpa using hc
    clear hc hf
    go_enter Tryd.func22, Tryd.ntmps22
    go_wp2_with fail
    refine CH.out.mono ?_
    rintro e wa ⟨rfl, K1⟩
    have HK := hid_of (KW.trans K1)
    clear KW K1 CH w0 w1
    go_wp2
    go_ret
    exact ⟨rfl, HK.out⟩
  subst hc
  have h0 : (faultOf nodes es).1 = 0 := by rw [hf]
  rw [if_neg (by rw [hf]; simp)] at hz'
  obtain ⟨N, rfl, RG⟩ := right_of (fault_zero h0)
  rw [← HLN.out] at RG
  have RGH := hid_of RG
  have MC := hid_of (fun w' (K : Kept w w') => matchesR_calls N ao n cap es co L cc c w' (HE.out.kept K) (HJ.out.kept K) RGH.out)
  clear RG hf h0
  go_enter Tryd.func22, Tryd.ntmps22
  go_wp2_with fail
  refine CH.out.mono ?_
  rintro e wa ⟨rfl, K1⟩
  have HK := hid_of (KW.trans K1)
  replace w0 := K1.cell w0
  replace w1 := K1.cell w1
  clear KW K1 CH
  go_wp2_with fail
  refine (MC.out wa HK.out).mono ?_
  rintro e wb ⟨K2, ⟨ok, rfl⟩ | ⟨ok, rfl⟩⟩
  · rw [if_pos ok] at hz'
    subst hz'
    have HK2 := hid_of (HK.out.trans K2)
    clear K2 w0 w1 MC ok HK
    go_wp2
    go_ret
    exact ⟨rfl, HK2.out⟩
  · rw [if_neg ok] at hz'
    subst hz'
    have HK2 := hid_of (HK.out.trans K2)
    clear K2 w0 w1 MC ok HK
    go_wp2
    go_ret
    exact ⟨rfl, HK2.out⟩

end Go.Proofs.YtkpfnkpkmbfajaaDoor

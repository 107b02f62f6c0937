/- Cheapest. -/
import Derived.Test.YtomopfjaebcpeaaPrH
namespace Go.Proofs.Ytomopfjaebcpeaa
open Go.RowKit

set_option maxRecDepth 100000 in
set_option linter.unusedSimpArgs false in
set_option maxHeartbeats 1000000 in
theorem plan_bad (nodes : Int) (ao : Option Addr) (n cap : Nat) (es : List Ed) (f0 f1 f2 : Value) (w : World) (h : ERow w ao n cap es) (c a : Int) (hf : Hid (faultOf nodes es = (c, a))) (hc : c ≠ 0) :
    Calls Try.prog 18 #[.agg #[.int .i64 nodes, .slice ao n cap], .agg #[f0, f1, f2]] w fun e w' => e = .returned (.tuple #[.int .i64 0, .int .i64 c]) ∧ Kept w w' := by
  have hmf : ∀ (fn : Fn) (first cap : Array Value) (w : World), (Instr.makeFunc fn first cap).run Try.prog w = .ok (.func fn first cap) w := fun _ _ _ _ => rfl
  have KW : Kept w (((w.alloc (Obj.cells #[.int .i64 nodes, .slice ao n cap] 24)).alloc (Obj.cells #[f0, f1, f2] 37)).alloc (Obj.cells #[.int .i64 0] 2)) := (((Kept.refl w).alloc _).alloc _).alloc _
  have c2 : (((w.alloc (Obj.cells #[.int .i64 nodes, .slice ao n cap] 24)).alloc (Obj.cells #[f0, f1, f2] 37)).alloc (Obj.cells #[.int .i64 0] 2)).cell? ⟨w.heap.size + 2, 0, none⟩ = some (.int .i64 0) := by simp [go_sem]
  have HE := hid_of h
  have HC := hid_of hc
  clear h hc
  go_enter Try.func18, Try.ntmps18
  go_wp2_with fail
  generalize ((w.alloc (Obj.cells #[.int .i64 nodes, .slice ao n cap] 24)).alloc (Obj.cells #[f0, f1, f2] 37)).alloc (Obj.cells #[.int .i64 0] 2) = W0 at KW c2 ⊢
  refine (looked_bad nodes ao n cap es W0 (HE.out.kept KW) c a hf HC.out _).mono ?_
  rintro e wa ⟨rfl, K1⟩
  have c3 := K1.cell c2
  have HK := hid_of (KW.trans K1)
  clear KW K1 c2
  go_wp2
  go_ret2
  exact ⟨rfl, HK.out⟩

set_option maxRecDepth 100000 in
set_option linter.unusedSimpArgs false in
set_option maxHeartbeats 1000000 in
theorem plan_no (nodes : Int) (ao : Option Addr) (n cap : Nat) (es : List Ed) (f0 f1 f2 : Value) (w : World) (h : ERow w ao n cap es) (hf : Hid (faultOf nodes es = (0, 0))) (d : Int)
    (HC : ∀ w1, Kept w w1 → Box3 w1 (w.heap.size + 1) f0 f1 f2 → GBox w1 w.heap.size nodes ao n cap → w1.cell? ⟨w.heap.size + 2, 0, none⟩ = some (.int .i64 0) → w1.frozen? ⟨w.heap.size + 2, 0, none⟩ = false →
      Calls Try.prog 57 #[.pointer (some ⟨w.heap.size + 1, 0, none⟩), .pointer (some ⟨w.heap.size, 0, none⟩), .pointer (some ⟨w.heap.size + 2, 0, none⟩)] w1 fun e w2 => e = .panicked [{ v := .iface 136 (.agg #[.int .i64 d]), recovered := false }] ∧ Kept w1 w2) :
    Calls Try.prog 18 #[.agg #[.int .i64 nodes, .slice ao n cap], .agg #[f0, f1, f2]] w fun e w' => e = .returned (.tuple #[.int .i64 0, .int .i64 d]) ∧ Kept w w' := by
  have hmf : ∀ (fn : Fn) (first cap : Array Value) (w : World), (Instr.makeFunc fn first cap).run Try.prog w = .ok (.func fn first cap) w := fun _ _ _ _ => rfl
  have KW : Kept w (((w.alloc (Obj.cells #[.int .i64 nodes, .slice ao n cap] 24)).alloc (Obj.cells #[f0, f1, f2] 37)).alloc (Obj.cells #[.int .i64 0] 2)) := (((Kept.refl w).alloc _).alloc _).alloc _
  have c2 : (((w.alloc (Obj.cells #[.int .i64 nodes, .slice ao n cap] 24)).alloc (Obj.cells #[f0, f1, f2] 37)).alloc (Obj.cells #[.int .i64 0] 2)).cell? ⟨w.heap.size + 2, 0, none⟩ = some (.int .i64 0) := by simp [go_sem]
  have d2 : (((w.alloc (Obj.cells #[.int .i64 nodes, .slice ao n cap] 24)).alloc (Obj.cells #[f0, f1, f2] 37)).alloc (Obj.cells #[.int .i64 0] 2)).frozen? ⟨w.heap.size + 2, 0, none⟩ = false := by simp [go_sem]
  have hG : GBox (((w.alloc (Obj.cells #[.int .i64 nodes, .slice ao n cap] 24)).alloc (Obj.cells #[f0, f1, f2] 37)).alloc (Obj.cells #[.int .i64 0] 2)) w.heap.size nodes ao n cap := ⟨by simp [go_sem], by simp [go_sem]⟩
  have hB : Box3 (((w.alloc (Obj.cells #[.int .i64 nodes, .slice ao n cap] 24)).alloc (Obj.cells #[f0, f1, f2] 37)).alloc (Obj.cells #[.int .i64 0] 2)) (w.heap.size + 1) f0 f1 f2 := ⟨by simp [go_sem], by simp [go_sem], by simp [go_sem]⟩
  have HE := hid_of h
  have HG := hid_of hG
  have HB := hid_of hB
  have HCH := hid_of HC
  clear h hG hB HC
  go_enter Try.func18, Try.ntmps18
  go_wp2_with fail
  generalize ((w.alloc (Obj.cells #[.int .i64 nodes, .slice ao n cap] 24)).alloc (Obj.cells #[f0, f1, f2] 37)).alloc (Obj.cells #[.int .i64 0] 2) = W0 at KW c2 d2 HG HB ⊢
  refine (looked_no nodes ao n cap es W0 (HE.out.kept KW) hf 57 #[.pointer (some ⟨w.heap.size + 1, 0, none⟩), .pointer (some ⟨w.heap.size, 0, none⟩), .pointer (some ⟨w.heap.size + 2, 0, none⟩)] (fun _ => rfl) d
    (fun w1 K => HCH.out w1 (KW.trans K) (HB.out.kept K) (HG.out.kept K) (K.cell c2) ((Below.frozen (p := ⟨w.heap.size + 2, 0, none⟩) K (lt_cell c2)).trans d2))).mono ?_
  rintro e wa ⟨rfl, K1⟩
  have c3 := K1.cell c2
  have HK := hid_of (KW.trans K1)
  clear KW K1 c2 d2
  go_wp2
  go_ret2
  exact ⟨rfl, HK.out⟩

set_option maxRecDepth 100000 in
set_option linter.unusedSimpArgs false in
set_option maxHeartbeats 1000000 in
theorem plan_ok (nodes : Int) (ao : Option Addr) (n cap : Nat) (es : List Ed) (f0 f1 f2 : Value) (w : World) (h : ERow w ao n cap es) (hf : Hid (faultOf nodes es = (0, 0))) (z : Int)
    (HC : ∀ w1, Kept w w1 → Box3 w1 (w.heap.size + 1) f0 f1 f2 → GBox w1 w.heap.size nodes ao n cap → w1.cell? ⟨w.heap.size + 2, 0, none⟩ = some (.int .i64 0) → w1.frozen? ⟨w.heap.size + 2, 0, none⟩ = false →
      Calls Try.prog 57 #[.pointer (some ⟨w.heap.size + 1, 0, none⟩), .pointer (some ⟨w.heap.size, 0, none⟩), .pointer (some ⟨w.heap.size + 2, 0, none⟩)] w1 fun e w2 => e = .returned (.tuple #[]) ∧ ∃ wx, Kept w1 wx ∧ w2 = wx.setCell ⟨w.heap.size + 2, 0, none⟩ (.int .i64 z)) :
    Calls Try.prog 18 #[.agg #[.int .i64 nodes, .slice ao n cap], .agg #[f0, f1, f2]] w fun e w' => e = .returned (.tuple #[.int .i64 z, .int .i64 0]) ∧ Kept w w' := by
  have hmf : ∀ (fn : Fn) (first cap : Array Value) (w : World), (Instr.makeFunc fn first cap).run Try.prog w = .ok (.func fn first cap) w := fun _ _ _ _ => rfl
  have KW : Kept w (((w.alloc (Obj.cells #[.int .i64 nodes, .slice ao n cap] 24)).alloc (Obj.cells #[f0, f1, f2] 37)).alloc (Obj.cells #[.int .i64 0] 2)) := (((Kept.refl w).alloc _).alloc _).alloc _
  have hsz : (((w.alloc (Obj.cells #[.int .i64 nodes, .slice ao n cap] 24)).alloc (Obj.cells #[f0, f1, f2] 37)).alloc (Obj.cells #[.int .i64 0] 2)).heap.size = w.heap.size + 3 := by simp
  have c2 : (((w.alloc (Obj.cells #[.int .i64 nodes, .slice ao n cap] 24)).alloc (Obj.cells #[f0, f1, f2] 37)).alloc (Obj.cells #[.int .i64 0] 2)).cell? ⟨w.heap.size + 2, 0, none⟩ = some (.int .i64 0) := by simp [go_sem]
  have d2 : (((w.alloc (Obj.cells #[.int .i64 nodes, .slice ao n cap] 24)).alloc (Obj.cells #[f0, f1, f2] 37)).alloc (Obj.cells #[.int .i64 0] 2)).frozen? ⟨w.heap.size + 2, 0, none⟩ = false := by simp [go_sem]
  have hG : GBox (((w.alloc (Obj.cells #[.int .i64 nodes, .slice ao n cap] 24)).alloc (Obj.cells #[f0, f1, f2] 37)).alloc (Obj.cells #[.int .i64 0] 2)) w.heap.size nodes ao n cap := ⟨by simp [go_sem], by simp [go_sem]⟩
  have hB : Box3 (((w.alloc (Obj.cells #[.int .i64 nodes, .slice ao n cap] 24)).alloc (Obj.cells #[f0, f1, f2] 37)).alloc (Obj.cells #[.int .i64 0] 2)) (w.heap.size + 1) f0 f1 f2 := ⟨by simp [go_sem], by simp [go_sem], by simp [go_sem]⟩
  have HE := hid_of h
  have HG := hid_of hG
  have HB := hid_of hB
  have HCH := hid_of HC
  have HSZ := hid_of hsz
  clear h hG hB HC hsz
  go_enter Try.func18, Try.ntmps18
  go_wp2_with fail
  generalize ((w.alloc (Obj.cells #[.int .i64 nodes, .slice ao n cap] 24)).alloc (Obj.cells #[f0, f1, f2] 37)).alloc (Obj.cells #[.int .i64 0] 2) = W0 at KW c2 d2 HG HB HSZ ⊢
  refine (looked_ok nodes ao n cap es W0 (HE.out.kept KW) hf 57 #[.pointer (some ⟨w.heap.size + 1, 0, none⟩), .pointer (some ⟨w.heap.size, 0, none⟩), .pointer (some ⟨w.heap.size + 2, 0, none⟩)] (fun _ => rfl) (fun k => k = w.heap.size + 2) (fun w2 => w2.cell? ⟨w.heap.size + 2, 0, none⟩ = some (.int .i64 z)) (fun k hk => by rw [HSZ.out, hk]; omega)
    (fun w1 K => ((HCH.out w1 (KW.trans K) (HB.out.kept K) (HG.out.kept K) (K.cell c2) ((Below.frozen (p := ⟨w.heap.size + 2, 0, none⟩) K (lt_cell c2)).trans d2))).mono (fun e w2 hp => by
      obtain ⟨rfl, wx, Kx, rfl⟩ := hp
      exact ⟨rfl, World.cell?_setCell_same _ _ _ (Kx.cell (K.cell c2)), Ch.setCell (F := fun k => k = w.heap.size + 2) (Ch.of_kept Kx) (p := ⟨w.heap.size + 2, 0, none⟩) rfl _⟩))).mono ?_
  rintro e wa ⟨rfl, w2, hR, C1, C2⟩
  have c3 := C2.cell hR (fun t => by have := HSZ.out; omega)
  have HK : Hid (Kept w wa) := by
    have k1 := KW.ch C1 (fun k hk => by subst hk; omega)
    exact k1.ch C2 (fun k hk => by have := HSZ.out; omega)
  clear KW C1 C2 hR c2 d2
  go_wp2
  go_ret2
  exact ⟨rfl, HK.out⟩

open Classical in
/-- What Cheapest answers. -/
noncomputable def planAns (nodes : Int) (es : List Ed) (n : Nat) (sup : List Int) (ms : Nat) (on : List Int) (m : Nat) (pot : List Int) (mp : Nat) : Int × Int :=
  if (faultOf nodes es).1 ≠ 0 then (0, (faultOf nodes es).1) else if ¬ SupOk sup ms nodes.toNat then (0, 130)
  else if PlanOk es nodes.toNat n sup on m pot mp then (costTo es (zAt on) n, 0) else (0, 221)

theorem fault_zero {nodes : Int} {es : List Ed} (h : (faultOf nodes es).1 = 0) : faultOf nodes es = (0, 0) := by
  by_cases h2 : nodes < 0 ∨ 1024 < nodes ∨ 4096 < es.length
  · unfold faultOf at h; rw [if_pos h2] at h; simp at h
  · unfold faultOf at h ⊢; rw [if_neg h2] at h ⊢; exact fault_clean nodes es _ h

theorem plan_calls (nodes : Int) (ao : Option Addr) (n cap : Nat) (es : List Ed) (bs : Option Addr) (ms cs : Nat) (sup : List Int) (bo : Option Addr) (m bc : Nat) (on : List Int) (po : Option Addr) (mp pc : Nat) (pot : List Int) (w : World) (h : ERow w ao n cap es) (hS : JRow w bs ms cs sup) (hJ : JRow w bo m bc on) (hP : JRow w po mp pc pot) (v code : Int) (hans : Hid (planAns nodes es n sup ms on m pot mp = (v, code))) :
    Calls Try.prog 18 #[.agg #[.int .i64 nodes, .slice ao n cap], .agg #[.slice bs ms cs, .slice bo m bc, .slice po mp pc]] w fun e w' => e = .returned (.tuple #[.int .i64 v, .int .i64 code]) ∧ Kept w w' := by
  replace hans := hans.out
  unfold planAns at hans
  by_cases hc : (faultOf nodes es).1 = 0
  · have hf := fault_zero hc
    rw [if_neg (by simp [hc])] at hans
    obtain ⟨N, rfl, RG⟩ := right_of hf
    rw [← h.len] at RG
    simp only [Int.toNat_natCast] at hans
    by_cases hs : SupOk sup ms N
    · rw [if_neg (fun t => t hs)] at hans
      obtain rfl : ms = N := hs.1
      have L := fun (w1 : World) (K : Kept w w1) F G (c2 : w1.cell? ⟨w.heap.size + 2, 0, none⟩ = some (.int .i64 0)) d2 => planLook_calls (w.heap.size + 1) w.heap.size (w.heap.size + 2) bs cs sup bo m bc on po mp pc pot ms ao n cap es w1 F G _ c2 d2 (h.kept K) (hS.kept K) (hJ.kept K) (hP.kept K) RG hs
      by_cases ok : PlanOk es ms n sup on m pot mp
      · rw [if_pos ok] at hans
        obtain ⟨rfl, rfl⟩ := Prod.mk.inj hans
        refine plan_ok (ms : Int) ao n cap es _ _ _ w h (hid_of hf) _ fun w1 K F G c2 d2 => (L w1 K F G c2 d2).mono fun e w2 hp => ?_
        rcases hp with ⟨_, h1, h2⟩ | ⟨h1, _⟩
        · exact ⟨h1, h2⟩
        · exact absurd ok h1
      · rw [if_neg ok] at hans
        obtain ⟨rfl, rfl⟩ := Prod.mk.inj hans
        refine plan_no (ms : Int) ao n cap es _ _ _ w h (hid_of hf) 221 fun w1 K F G c2 d2 => (L w1 K F G c2 d2).mono fun e w2 hp => ?_
        rcases hp with ⟨h1, _⟩ | ⟨_, h1, h2⟩
        · exact absurd h1 ok
        · exact ⟨h1, h2⟩
    · rw [if_pos hs] at hans
      obtain ⟨rfl, rfl⟩ := Prod.mk.inj hans
      exact plan_no (N : Int) ao n cap es _ _ _ w h (hid_of hf) 130 fun w1 K F G c2 d2 => planLook_sup _ _ _ bs ms cs sup _ _ N RG.nodes ao n cap w1 F G (hS.kept K) hs
  · obtain ⟨c, a, hf⟩ : ∃ c a, faultOf nodes es = (c, a) := ⟨_, _, rfl⟩
    rw [hf] at hans hc
    rw [if_pos hc] at hans
    obtain ⟨rfl, rfl⟩ := Prod.mk.inj hans
    exact plan_bad nodes ao n cap es _ _ _ w h c a (hid_of hf) hc
end Go.Proofs.Ytomopfjaebcpeaa

/- Max. -/
import Derived.Test.YtomopfjaebcpeaaPrF
namespace Go.Proofs.Ytomopfjaebcpeaa
open Go.RowKit

set_option maxRecDepth 100000 in
set_option linter.unusedSimpArgs false in
set_option maxHeartbeats 1000000 in
theorem max_bad (nodes : Int) (ao : Option Addr) (n cap : Nat) (es : List Ed) (f0 f1 f2 f3 : Value) (w : World) (h : ERow w ao n cap es) (c a : Int) (hf : Hid (faultOf nodes es = (c, a))) (hc : c ≠ 0) :
    Calls Try.prog 16 #[.agg #[.int .i64 nodes, .slice ao n cap], .agg #[f0, f1, f2, f3]] w fun e w' => e = .returned (.tuple #[.int .i64 0, .int .i64 c]) ∧ Kept w w' := by
  have hmf : ∀ (fn : Fn) (first cap : Array Value) (w : World), (Instr.makeFunc fn first cap).run Try.prog w = .ok (.func fn first cap) w := fun _ _ _ _ => rfl
  have KW : Kept w (((w.alloc (Obj.cells #[.int .i64 nodes, .slice ao n cap] 24)).alloc (Obj.cells #[f0, f1, f2, f3] 28)).alloc (Obj.cells #[.int .i64 0] 2)) := (((Kept.refl w).alloc _).alloc _).alloc _
  have c2 : (((w.alloc (Obj.cells #[.int .i64 nodes, .slice ao n cap] 24)).alloc (Obj.cells #[f0, f1, f2, f3] 28)).alloc (Obj.cells #[.int .i64 0] 2)).cell? ⟨w.heap.size + 2, 0, none⟩ = some (.int .i64 0) := by simp [go_sem]
  have HE := hid_of h
  have HC := hid_of hc
  clear h hc
  go_enter Try.func16, Try.ntmps16
  go_wp2_with fail
  generalize ((w.alloc (Obj.cells #[.int .i64 nodes, .slice ao n cap] 24)).alloc (Obj.cells #[f0, f1, f2, f3] 28)).alloc (Obj.cells #[.int .i64 0] 2) = W0 at KW c2 ⊢
  refine (looked_bad nodes ao n cap es W0 (HE.out.kept KW) c a hf HC.out _).mono ?_
  rintro e wa ⟨rfl, K1⟩
  have c3 := K1.cell c2
  have HK := hid_of (KW.trans K1)
  clear KW K1 c2
  go_wp2
  go_ret2
  exact ⟨rfl, HK.out⟩

set_option maxRecDepth 100000 in
set_option linter.unusedSimpArgs false in
set_option maxHeartbeats 1000000 in
theorem max_no (nodes : Int) (ao : Option Addr) (n cap : Nat) (es : List Ed) (f0 f1 f2 f3 : Value) (w : World) (h : ERow w ao n cap es) (hf : Hid (faultOf nodes es = (0, 0))) (d : Int)
    (HC : ∀ w1, Kept w w1 → Box4 w1 (w.heap.size + 1) f0 f1 f2 f3 → GBox w1 w.heap.size nodes ao n cap → w1.cell? ⟨w.heap.size + 2, 0, none⟩ = some (.int .i64 0) → w1.frozen? ⟨w.heap.size + 2, 0, none⟩ = false →
      Calls Try.prog 49 #[.pointer (some ⟨w.heap.size + 1, 0, none⟩), .pointer (some ⟨w.heap.size, 0, none⟩), .pointer (some ⟨w.heap.size + 2, 0, none⟩)] w1 fun e w2 => e = .panicked [{ v := .iface 136 (.agg #[.int .i64 d]), recovered := false }] ∧ Kept w1 w2) :
    Calls Try.prog 16 #[.agg #[.int .i64 nodes, .slice ao n cap], .agg #[f0, f1, f2, f3]] w fun e w' => e = .returned (.tuple #[.int .i64 0, .int .i64 d]) ∧ Kept w w' := by
  have hmf : ∀ (fn : Fn) (first cap : Array Value) (w : World), (Instr.makeFunc fn first cap).run Try.prog w = .ok (.func fn first cap) w := fun _ _ _ _ => rfl
  have KW : Kept w (((w.alloc (Obj.cells #[.int .i64 nodes, .slice ao n cap] 24)).alloc (Obj.cells #[f0, f1, f2, f3] 28)).alloc (Obj.cells #[.int .i64 0] 2)) := (((Kept.refl w).alloc _).alloc _).alloc _
  have c2 : (((w.alloc (Obj.cells #[.int .i64 nodes, .slice ao n cap] 24)).alloc (Obj.cells #[f0, f1, f2, f3] 28)).alloc (Obj.cells #[.int .i64 0] 2)).cell? ⟨w.heap.size + 2, 0, none⟩ = some (.int .i64 0) := by simp [go_sem]
  have d2 : (((w.alloc (Obj.cells #[.int .i64 nodes, .slice ao n cap] 24)).alloc (Obj.cells #[f0, f1, f2, f3] 28)).alloc (Obj.cells #[.int .i64 0] 2)).frozen? ⟨w.heap.size + 2, 0, none⟩ = false := by simp [go_sem]
  have hG : GBox (((w.alloc (Obj.cells #[.int .i64 nodes, .slice ao n cap] 24)).alloc (Obj.cells #[f0, f1, f2, f3] 28)).alloc (Obj.cells #[.int .i64 0] 2)) w.heap.size nodes ao n cap := ⟨by simp [go_sem], by simp [go_sem]⟩
  have hB : Box4 (((w.alloc (Obj.cells #[.int .i64 nodes, .slice ao n cap] 24)).alloc (Obj.cells #[f0, f1, f2, f3] 28)).alloc (Obj.cells #[.int .i64 0] 2)) (w.heap.size + 1) f0 f1 f2 f3 := ⟨by simp [go_sem], by simp [go_sem], by simp [go_sem], by simp [go_sem]⟩
  have HE := hid_of h
  have HG := hid_of hG
  have HB := hid_of hB
  have HCH := hid_of HC
  clear h hG hB HC
  go_enter Try.func16, Try.ntmps16
  go_wp2_with fail
  generalize ((w.alloc (Obj.cells #[.int .i64 nodes, .slice ao n cap] 24)).alloc (Obj.cells #[f0, f1, f2, f3] 28)).alloc (Obj.cells #[.int .i64 0] 2) = W0 at KW c2 d2 HG HB ⊢
  refine (looked_no nodes ao n cap es W0 (HE.out.kept KW) hf 49 #[.pointer (some ⟨w.heap.size + 1, 0, none⟩), .pointer (some ⟨w.heap.size, 0, none⟩), .pointer (some ⟨w.heap.size + 2, 0, none⟩)] (fun _ => rfl) d
    (fun w1 K => HCH.out w1 (KW.trans K) (HB.out.kept K) (HG.out.kept K) (K.cell c2) ((Below.frozen (p := ⟨w.heap.size + 2, 0, none⟩) K (lt_cell c2)).trans d2))).mono ?_
  rintro e wa ⟨rfl, K1⟩
  have c3 := K1.cell c2
  have HK := hid_of (KW.trans K1)
  clear KW K1 c2 d2
  go_wp2
  go_ret2
  exact ⟨rfl, HK.out⟩

set_option maxRecDepth 100000 in
set_option linter.unusedSimpArgs false in
set_option maxHeartbeats 1000000 in
theorem max_ok (nodes : Int) (ao : Option Addr) (n cap : Nat) (es : List Ed) (f0 f1 f2 f3 : Value) (w : World) (h : ERow w ao n cap es) (hf : Hid (faultOf nodes es = (0, 0))) (z : Int)
    (HC : ∀ w1, Kept w w1 → Box4 w1 (w.heap.size + 1) f0 f1 f2 f3 → GBox w1 w.heap.size nodes ao n cap → w1.cell? ⟨w.heap.size + 2, 0, none⟩ = some (.int .i64 0) → w1.frozen? ⟨w.heap.size + 2, 0, none⟩ = false →
      Calls Try.prog 49 #[.pointer (some ⟨w.heap.size + 1, 0, none⟩), .pointer (some ⟨w.heap.size, 0, none⟩), .pointer (some ⟨w.heap.size + 2, 0, none⟩)] w1 fun e w2 => e = .returned (.tuple #[]) ∧ ∃ wx, Kept w1 wx ∧ w2 = wx.setCell ⟨w.heap.size + 2, 0, none⟩ (.int .i64 z)) :
    Calls Try.prog 16 #[.agg #[.int .i64 nodes, .slice ao n cap], .agg #[f0, f1, f2, f3]] w fun e w' => e = .returned (.tuple #[.int .i64 z, .int .i64 0]) ∧ Kept w w' := by
  have hmf : ∀ (fn : Fn) (first cap : Array Value) (w : World), (Instr.makeFunc fn first cap).run Try.prog w = .ok (.func fn first cap) w := fun _ _ _ _ => rfl
  have KW : Kept w (((w.alloc (Obj.cells #[.int .i64 nodes, .slice ao n cap] 24)).alloc (Obj.cells #[f0, f1, f2, f3] 28)).alloc (Obj.cells #[.int .i64 0] 2)) := (((Kept.refl w).alloc _).alloc _).alloc _
  have hsz : (((w.alloc (Obj.cells #[.int .i64 nodes, .slice ao n cap] 24)).alloc (Obj.cells #[f0, f1, f2, f3] 28)).alloc (Obj.cells #[.int .i64 0] 2)).heap.size = w.heap.size + 3 := by simp
  have c2 : (((w.alloc (Obj.cells #[.int .i64 nodes, .slice ao n cap] 24)).alloc (Obj.cells #[f0, f1, f2, f3] 28)).alloc (Obj.cells #[.int .i64 0] 2)).cell? ⟨w.heap.size + 2, 0, none⟩ = some (.int .i64 0) := by simp [go_sem]
  have d2 : (((w.alloc (Obj.cells #[.int .i64 nodes, .slice ao n cap] 24)).alloc (Obj.cells #[f0, f1, f2, f3] 28)).alloc (Obj.cells #[.int .i64 0] 2)).frozen? ⟨w.heap.size + 2, 0, none⟩ = false := by simp [go_sem]
  have hG : GBox (((w.alloc (Obj.cells #[.int .i64 nodes, .slice ao n cap] 24)).alloc (Obj.cells #[f0, f1, f2, f3] 28)).alloc (Obj.cells #[.int .i64 0] 2)) w.heap.size nodes ao n cap := ⟨by simp [go_sem], by simp [go_sem]⟩
  have hB : Box4 (((w.alloc (Obj.cells #[.int .i64 nodes, .slice ao n cap] 24)).alloc (Obj.cells #[f0, f1, f2, f3] 28)).alloc (Obj.cells #[.int .i64 0] 2)) (w.heap.size + 1) f0 f1 f2 f3 := ⟨by simp [go_sem], by simp [go_sem], by simp [go_sem], by simp [go_sem]⟩
  have HE := hid_of h
  have HG := hid_of hG
  have HB := hid_of hB
  have HCH := hid_of HC
  have HSZ := hid_of hsz
  clear h hG hB HC hsz
  go_enter Try.func16, Try.ntmps16
  go_wp2_with fail
  generalize ((w.alloc (Obj.cells #[.int .i64 nodes, .slice ao n cap] 24)).alloc (Obj.cells #[f0, f1, f2, f3] 28)).alloc (Obj.cells #[.int .i64 0] 2) = W0 at KW c2 d2 HG HB HSZ ⊢
  refine (looked_ok nodes ao n cap es W0 (HE.out.kept KW) hf 49 #[.pointer (some ⟨w.heap.size + 1, 0, none⟩), .pointer (some ⟨w.heap.size, 0, none⟩), .pointer (some ⟨w.heap.size + 2, 0, none⟩)] (fun _ => rfl) (fun k => k = w.heap.size + 2) (fun w2 => w2.cell? ⟨w.heap.size + 2, 0, none⟩ = some (.int .i64 z)) (fun k hk => by rw [HSZ.out, hk]; omega)
    (fun w1 K => ((HCH.out w1 (KW.trans K) (HB.out.kept K) (HG.out.kept K) (K.cell c2) ((Below.frozen (p := ⟨w.heap.size + 2, 0, none⟩) K (lt_cell c2)).trans d2))).mono (fun e w2 hp => by
      obtain ⟨rfl, wx, Kx, rfl⟩ := hp
      exact ⟨rfl, World.cell?_setCell_same _ _ _ (Kx.cell (K.cell c2)), Ch.setCell (F := fun k => k = w.heap.size + 2) (Ch.of_kept Kx) (p := ⟨w.heap.size + 2, 0, none⟩) rfl _⟩))).mono ?_
  rintro e wa ⟨rfl, w2, hR, C1, C2⟩
  have c3 := C2.cell hR (fun t => by have := HSZ.out; omega)
  have HK : Hid (Kept w wa) := by
    have k1 := KW.ch C1 (fun k hk => by subst hk; omega)
    exact k1.ch C2 (fun k hk => by have := HSZ.out; omega)
  clear KW C1 C2 hR c2 d2
  go_wp2
  go_ret2
  exact ⟨rfl, HK.out⟩

open Classical in
/-- What Max answers. -/
noncomputable def maxAns (nodes : Int) (es : List Ed) (n : Nat) (s t : Int) (on : List Int) (m : Nat) (bs : List Bool) (k : Nat) : Int × Int :=
  if (faultOf nodes es).1 ≠ 0 then (0, (faultOf nodes es).1) else if ¬ (0 ≤ s ∧ s < nodes) ∨ ¬ (0 ≤ t ∧ t < nodes) then (0, 30) else if s = t then (0, 120)
  else if MaxOk es nodes.toNat n on m bs k s.toNat t.toNat then (cutTo es (bAt bs) n, 0) else (0, 221)

theorem max_calls (nodes : Int) (ao : Option Addr) (n cap : Nat) (es : List Ed) (s t : Int) (bo : Option Addr) (m bc : Nat) (on : List Int) (so : Option Addr) (k sc : Nat) (bs : List Bool) (w : World) (h : ERow w ao n cap es) (hJ : JRow w bo m bc on) (hB : BRow w so k sc bs) (v code : Int) (hans : Hid (maxAns nodes es n s t on m bs k = (v, code))) :
    Calls Try.prog 16 #[.agg #[.int .i64 nodes, .slice ao n cap], .agg #[.int .i64 s, .int .i64 t, .slice bo m bc, .slice so k sc]] w fun e w' => e = .returned (.tuple #[.int .i64 v, .int .i64 code]) ∧ Kept w w' := by
  replace hans := hans.out
  unfold maxAns at hans
  obtain ⟨c, a, hf⟩ : ∃ c a, faultOf nodes es = (c, a) := ⟨_, _, rfl⟩
  rw [hf] at hans
  by_cases hc : c = 0
  · subst hc
    rw [if_neg (by simp)] at hans
    obtain rfl : a = 0 := by
      have h2 := hf
      unfold faultOf at h2
      split at h2
      · simp at h2
      · have := fault_clean nodes es es.length (by rw [h2])
        rw [h2] at this
        simpa using this
    by_cases hb : ¬ (0 ≤ s ∧ s < nodes) ∨ ¬ (0 ≤ t ∧ t < nodes)
    · rw [if_pos hb] at hans
      obtain ⟨rfl, rfl⟩ := Prod.mk.inj hans
      exact max_no nodes ao n cap es _ _ _ _ w h (hid_of hf) 30 fun w1 K F G c2 d2 => maxLook_node _ _ _ s t _ _ nodes ao n cap w1 F G hb
    · rw [if_neg hb] at hans
      have hs : 0 ≤ s ∧ s < nodes := Classical.not_not.1 fun t => hb (.inl t)
      have ht : 0 ≤ t ∧ t < nodes := Classical.not_not.1 fun t => hb (.inr t)
      by_cases hst : s = t
      · subst hst
        rw [if_pos rfl] at hans
        obtain ⟨rfl, rfl⟩ := Prod.mk.inj hans
        exact max_no nodes ao n cap es _ _ _ _ w h (hid_of hf) 120 fun w1 K F G c2 d2 => maxLook_same _ _ _ s _ _ nodes ao n cap w1 F G hs
      · rw [if_neg hst] at hans
        obtain ⟨N, rfl, RG⟩ := right_of hf
        rw [← h.len] at RG
        obtain ⟨s', rfl⟩ : ∃ s' : Nat, s = (s' : Int) := ⟨s.toNat, by omega⟩
        obtain ⟨t', rfl⟩ : ∃ t' : Nat, t = (t' : Int) := ⟨t.toNat, by omega⟩
        simp only [Int.toNat_natCast] at hans
        have L := fun (w1 : World) (K : Kept w w1) F G (c2 : w1.cell? ⟨w.heap.size + 2, 0, none⟩ = some (.int .i64 0)) d2 => maxLook_calls (w.heap.size + 1) w.heap.size (w.heap.size + 2) s' t' bo m bc on so k sc bs N ao n cap es w1 F G _ c2 d2 (h.kept K) (hJ.kept K) (hB.kept K) RG (by omega) (by omega) (fun e => hst (by omega))
        by_cases ok : MaxOk es N n on m bs k s' t'
        · rw [if_pos ok] at hans
          obtain ⟨rfl, rfl⟩ := Prod.mk.inj hans
          refine max_ok (N : Int) ao n cap es _ _ _ _ w h (hid_of hf) _ fun w1 K F G c2 d2 => (L w1 K F G c2 d2).mono fun e w2 hp => ?_
          rcases hp with ⟨_, h1, h2⟩ | ⟨h1, _⟩
          · exact ⟨h1, h2⟩
          · exact absurd ok h1
        · rw [if_neg ok] at hans
          obtain ⟨rfl, rfl⟩ := Prod.mk.inj hans
          refine max_no (N : Int) ao n cap es _ _ _ _ w h (hid_of hf) 221 fun w1 K F G c2 d2 => (L w1 K F G c2 d2).mono fun e w2 hp => ?_
          rcases hp with ⟨h1, _⟩ | ⟨_, h1, h2⟩
          · exact absurd h1 ok
          · exact ⟨h1, h2⟩
  · rw [if_pos hc] at hans
    obtain ⟨rfl, rfl⟩ := Prod.mk.inj hans
    exact max_bad nodes ao n cap es _ _ _ _ w h c a (hid_of hf) hc
end Go.Proofs.Ytomopfjaebcpeaa

/- The frames of Covered, Heaviest, Largest, Cheapest, Many, Doubled: boxes, a look, what is answered. -/
import Derived.Test.YtpdppjngbbkbbaaDoorVoU
namespace Go.Proofs.YtpdppjngbbkbbaaDoor
open Go.RowKit

set_option maxRecDepth 100000 in
set_option linter.unusedSimpArgs false in
set_option maxHeartbeats 2000000 in
theorem covered_wrap (nodes : Int) (ao : Option Addr) (n cap : Nat) (es : List Ed) (mo : Option Addr) (lm mc : Nat) (xo : Option Addr) (lx xc : Nat) (w : World) (h : ERow w ao n cap es) (v code : Int)
    (HL : (faultOf nodes es).1 = 0 → ∀ w1, Kept w w1 → GBox w1 w.heap.size nodes ao n cap → w1.cell? ⟨w.heap.size + 1, 0, none⟩ = some (Value.slice mo lm mc) → w1.cell? ⟨w.heap.size + 2, 0, none⟩ = some (Value.slice xo lx xc) → w1.cell? ⟨w.heap.size + 3, 0, none⟩ = some (.int .i64 0) → w1.frozen? ⟨w.heap.size + 3, 0, none⟩ = false → Calls Tryd.prog 48 #[.pointer (some ⟨w.heap.size + 1, 0, none⟩), .pointer (some ⟨w.heap.size, 0, none⟩), .pointer (some ⟨w.heap.size + 2, 0, none⟩), .pointer (some ⟨w.heap.size + 3, 0, none⟩)] w1 fun e w2 =>
      (code = 0 ∧ e = .returned (.tuple #[]) ∧ ∃ wx, Kept w1 wx ∧ w2 = wx.setCell ⟨w.heap.size + 3, 0, none⟩ (.int .i64 v)) ∨ (code ≠ 0 ∧ v = 0 ∧ e = .panicked [{ v := .iface 140 (.agg #[.int .i64 code]), recovered := false }] ∧ Kept w1 w2))
    (HV : code ≠ 0 → v = 0) (HBad : (faultOf nodes es).1 ≠ 0 → v = 0 ∧ code = (faultOf nodes es).1) :
    Calls Tryd.prog 17 #[.agg #[.int .i64 nodes, .slice ao n cap], .slice mo lm mc, .slice xo lx xc] w fun e w' => e = .returned (.tuple #[.int .i64 v, .int .i64 code]) ∧ Kept w w' := by
  have hmf : ∀ (fn : Fn) (first cap : Array Value) (w : World), (Instr.makeFunc fn first cap).run Tryd.prog w = .ok (.func fn first cap) w := fun _ _ _ _ => rfl
  have KW : Kept w ((((w.alloc (Obj.cells #[.int .i64 nodes, .slice ao n cap] 24)).alloc (Obj.cells #[Value.slice mo lm mc] 25)).alloc (Obj.cells #[Value.slice xo lx xc] 25)).alloc (Obj.cells #[.int .i64 0] 3)) := ((((Kept.refl w).alloc _).alloc _).alloc _).alloc _
  have hsz : ((((w.alloc (Obj.cells #[.int .i64 nodes, .slice ao n cap] 24)).alloc (Obj.cells #[Value.slice mo lm mc] 25)).alloc (Obj.cells #[Value.slice xo lx xc] 25)).alloc (Obj.cells #[.int .i64 0] 3)).heap.size = w.heap.size + 4 := by simp
  have hG : GBox ((((w.alloc (Obj.cells #[.int .i64 nodes, .slice ao n cap] 24)).alloc (Obj.cells #[Value.slice mo lm mc] 25)).alloc (Obj.cells #[Value.slice xo lx xc] 25)).alloc (Obj.cells #[.int .i64 0] 3)) w.heap.size nodes ao n cap := ⟨by simp [go_sem], by simp [go_sem]⟩
  have x10 : ((((w.alloc (Obj.cells #[.int .i64 nodes, .slice ao n cap] 24)).alloc (Obj.cells #[Value.slice mo lm mc] 25)).alloc (Obj.cells #[Value.slice xo lx xc] 25)).alloc (Obj.cells #[.int .i64 0] 3)).cell? ⟨w.heap.size + 1, 0, none⟩ = some (Value.slice mo lm mc) := by simp [go_sem]
  have x20 : ((((w.alloc (Obj.cells #[.int .i64 nodes, .slice ao n cap] 24)).alloc (Obj.cells #[Value.slice mo lm mc] 25)).alloc (Obj.cells #[Value.slice xo lx xc] 25)).alloc (Obj.cells #[.int .i64 0] 3)).cell? ⟨w.heap.size + 2, 0, none⟩ = some (Value.slice xo lx xc) := by simp [go_sem]
  have c2 : ((((w.alloc (Obj.cells #[.int .i64 nodes, .slice ao n cap] 24)).alloc (Obj.cells #[Value.slice mo lm mc] 25)).alloc (Obj.cells #[Value.slice xo lx xc] 25)).alloc (Obj.cells #[.int .i64 0] 3)).cell? ⟨w.heap.size + 3, 0, none⟩ = some (.int .i64 0) := by simp [go_sem]
  have d2 : ((((w.alloc (Obj.cells #[.int .i64 nodes, .slice ao n cap] 24)).alloc (Obj.cells #[Value.slice mo lm mc] 25)).alloc (Obj.cells #[Value.slice xo lx xc] 25)).alloc (Obj.cells #[.int .i64 0] 3)).frozen? ⟨w.heap.size + 3, 0, none⟩ = false := by simp [go_sem]
  have HE := hid_of h
  have V0 := hid_of HV
  have HLH := hid_of HL
  have HB := hid_of HBad
  clear h HL HBad HV
  go_enter Tryd.func17, Tryd.ntmps17
  go_wp2_with fail
  generalize ((((w.alloc (Obj.cells #[.int .i64 nodes, .slice ao n cap] 24)).alloc (Obj.cells #[Value.slice mo lm mc] 25)).alloc (Obj.cells #[Value.slice xo lx xc] 25)).alloc (Obj.cells #[.int .i64 0] 3)) = W0 at KW hsz hG x10 x20 c2 d2 ⊢
  obtain ⟨fc, fa, hf⟩ : ∃ fc fa, faultOf nodes es = (fc, fa) := ⟨_, _, rfl⟩
  by_cases hc : fc = 0
  · subst hc
    have h0 : (faultOf nodes es).1 = 0 := by rw [hf]
    have LK := hid_of (fun w1 (K : Kept W0 w1) => HLH.out h0 w1 (KW.trans K) (hG.kept K) (K.cell x10) (K.cell x20) (K.cell c2) ((Below.frozen (p := ⟨w.heap.size + 3, 0, none⟩) K (lt_cell c2)).trans d2))
    have hf0 := hid_of (fault_zero h0)
    have C2H := hid_of c2
    have KWH := hid_of KW
    have HSZ := hid_of hsz
    clear hG x10 x20 d2 hsz hf h0 KW c2 HLH HB
    by_cases hcode : code = 0
    · subst hcode
      refine (looked_ok nodes ao n cap es W0 (HE.out.kept KWH.out) hf0 48 #[.pointer (some ⟨w.heap.size + 1, 0, none⟩), .pointer (some ⟨w.heap.size, 0, none⟩), .pointer (some ⟨w.heap.size + 2, 0, none⟩), .pointer (some ⟨w.heap.size + 3, 0, none⟩)] (fun _ => rfl) (fun k => k = w.heap.size + 3) (fun w2 => w2.cell? ⟨w.heap.size + 3, 0, none⟩ = some (.int .i64 v)) (fun k hk => by subst hk; rw [HSZ.out]; omega)
        (fun w1 K => (LK.out w1 K).mono fun e w3 hp => ?_)).mono ?_
      · rcases hp with ⟨_, h1, wx, Kx, rfl⟩ | ⟨h1, _⟩
        · exact ⟨h1, World.cell?_setCell_same wx _ _ (Kx.cell (K.cell C2H.out)), Ch.setCell (F := fun k => k = w.heap.size + 3) (Ch.of_kept Kx) (p := ⟨w.heap.size + 3, 0, none⟩) rfl _⟩
        · exact absurd rfl h1
      · rintro e wa ⟨rfl, w2, hR, C1, C2⟩
        have c3 := C2.cell hR (by rw [HSZ.out]; omega)
        have HK : Hid (Kept w wa) := KWH.out.ch (C1.trans' C2 (fun i hi => .inr (by omega))) (fun k hk => by subst hk; omega)
        clear hR C1 C2 LK
        go_wp2
        go_ret2
        exact ⟨rfl, HK.out⟩
    · refine (looked_no nodes ao n cap es W0 (HE.out.kept KWH.out) hf0 48 #[.pointer (some ⟨w.heap.size + 1, 0, none⟩), .pointer (some ⟨w.heap.size, 0, none⟩), .pointer (some ⟨w.heap.size + 2, 0, none⟩), .pointer (some ⟨w.heap.size + 3, 0, none⟩)] (fun _ => rfl) code
        (fun w1 K => (LK.out w1 K).mono fun e w3 hp => ?_)).mono ?_
      · rcases hp with ⟨h1, _⟩ | ⟨_, _, h1, h2⟩
        · exact absurd h1 hcode
        · exact ⟨h1, h2⟩
      · rintro e wa ⟨rfl, K1⟩
        have hv : v = 0 := V0.out hcode
        have c3 := K1.cell C2H.out
        have HK := hid_of (KWH.out.trans K1)
        subst hv
        clear K1 LK
        go_wp2
        go_ret2
        exact ⟨rfl, HK.out⟩
  · obtain ⟨rfl, rfl⟩ := HB.out (by rw [hf]; exact hc)
    refine (looked_bad nodes ao n cap es W0 (HE.out.kept KW) fc fa (hid_of hf) hc _).mono ?_
    rintro e wa ⟨rfl, K1⟩
    have c3 := K1.cell c2
    have HK := hid_of (KW.trans K1)
    have e1 : fc = (faultOf nodes es).1 := by rw [hf]
    have E1 := hid_of e1
    clear KW K1 c2 HLH HB e1 hf
    go_wp2
    go_ret2
    exact ⟨by rw [E1.out]; rfl, HK.out⟩

set_option maxRecDepth 100000 in
set_option linter.unusedSimpArgs false in
set_option maxHeartbeats 2000000 in
theorem large_wrap (nodes : Int) (ao : Option Addr) (n cap : Nat) (es : List Ed) (mo : Option Addr) (lm mc : Nat) (xo : Option Addr) (lx xc : Nat) (w : World) (h : ERow w ao n cap es) (v code : Int)
    (HL : (faultOf nodes es).1 = 0 → ∀ w1, Kept w w1 → GBox w1 w.heap.size nodes ao n cap → w1.cell? ⟨w.heap.size + 1, 0, none⟩ = some (Value.slice mo lm mc) → w1.cell? ⟨w.heap.size + 2, 0, none⟩ = some (Value.slice xo lx xc) → w1.cell? ⟨w.heap.size + 3, 0, none⟩ = some (.int .i64 0) → w1.frozen? ⟨w.heap.size + 3, 0, none⟩ = false → Calls Tryd.prog 63 #[.pointer (some ⟨w.heap.size + 1, 0, none⟩), .pointer (some ⟨w.heap.size, 0, none⟩), .pointer (some ⟨w.heap.size + 2, 0, none⟩), .pointer (some ⟨w.heap.size + 3, 0, none⟩)] w1 fun e w2 =>
      (code = 0 ∧ e = .returned (.tuple #[]) ∧ ∃ wx, Kept w1 wx ∧ w2 = wx.setCell ⟨w.heap.size + 3, 0, none⟩ (.int .i64 v)) ∨ (code ≠ 0 ∧ v = 0 ∧ e = .panicked [{ v := .iface 140 (.agg #[.int .i64 code]), recovered := false }] ∧ Kept w1 w2))
    (HV : code ≠ 0 → v = 0) (HBad : (faultOf nodes es).1 ≠ 0 → v = 0 ∧ code = (faultOf nodes es).1) :
    Calls Tryd.prog 23 #[.agg #[.int .i64 nodes, .slice ao n cap], .slice mo lm mc, .slice xo lx xc] w fun e w' => e = .returned (.tuple #[.int .i64 v, .int .i64 code]) ∧ Kept w w' := by
  have hmf : ∀ (fn : Fn) (first cap : Array Value) (w : World), (Instr.makeFunc fn first cap).run Tryd.prog w = .ok (.func fn first cap) w := fun _ _ _ _ => rfl
  have KW : Kept w ((((w.alloc (Obj.cells #[.int .i64 nodes, .slice ao n cap] 24)).alloc (Obj.cells #[Value.slice mo lm mc] 25)).alloc (Obj.cells #[Value.slice xo lx xc] 25)).alloc (Obj.cells #[.int .i64 0] 3)) := ((((Kept.refl w).alloc _).alloc _).alloc _).alloc _
  have hsz : ((((w.alloc (Obj.cells #[.int .i64 nodes, .slice ao n cap] 24)).alloc (Obj.cells #[Value.slice mo lm mc] 25)).alloc (Obj.cells #[Value.slice xo lx xc] 25)).alloc (Obj.cells #[.int .i64 0] 3)).heap.size = w.heap.size + 4 := by simp
  have hG : GBox ((((w.alloc (Obj.cells #[.int .i64 nodes, .slice ao n cap] 24)).alloc (Obj.cells #[Value.slice mo lm mc] 25)).alloc (Obj.cells #[Value.slice xo lx xc] 25)).alloc (Obj.cells #[.int .i64 0] 3)) w.heap.size nodes ao n cap := ⟨by simp [go_sem], by simp [go_sem]⟩
  have x10 : ((((w.alloc (Obj.cells #[.int .i64 nodes, .slice ao n cap] 24)).alloc (Obj.cells #[Value.slice mo lm mc] 25)).alloc (Obj.cells #[Value.slice xo lx xc] 25)).alloc (Obj.cells #[.int .i64 0] 3)).cell? ⟨w.heap.size + 1, 0, none⟩ = some (Value.slice mo lm mc) := by simp [go_sem]
  have x20 : ((((w.alloc (Obj.cells #[.int .i64 nodes, .slice ao n cap] 24)).alloc (Obj.cells #[Value.slice mo lm mc] 25)).alloc (Obj.cells #[Value.slice xo lx xc] 25)).alloc (Obj.cells #[.int .i64 0] 3)).cell? ⟨w.heap.size + 2, 0, none⟩ = some (Value.slice xo lx xc) := by simp [go_sem]
  have c2 : ((((w.alloc (Obj.cells #[.int .i64 nodes, .slice ao n cap] 24)).alloc (Obj.cells #[Value.slice mo lm mc] 25)).alloc (Obj.cells #[Value.slice xo lx xc] 25)).alloc (Obj.cells #[.int .i64 0] 3)).cell? ⟨w.heap.size + 3, 0, none⟩ = some (.int .i64 0) := by simp [go_sem]
  have d2 : ((((w.alloc (Obj.cells #[.int .i64 nodes, .slice ao n cap] 24)).alloc (Obj.cells #[Value.slice mo lm mc] 25)).alloc (Obj.cells #[Value.slice xo lx xc] 25)).alloc (Obj.cells #[.int .i64 0] 3)).frozen? ⟨w.heap.size + 3, 0, none⟩ = false := by simp [go_sem]
  have HE := hid_of h
  have V0 := hid_of HV
  have HLH := hid_of HL
  have HB := hid_of HBad
  clear h HL HBad HV
  go_enter Tryd.func23, Tryd.ntmps23
  go_wp2_with fail
  generalize ((((w.alloc (Obj.cells #[.int .i64 nodes, .slice ao n cap] 24)).alloc (Obj.cells #[Value.slice mo lm mc] 25)).alloc (Obj.cells #[Value.slice xo lx xc] 25)).alloc (Obj.cells #[.int .i64 0] 3)) = W0 at KW hsz hG x10 x20 c2 d2 ⊢
  obtain ⟨fc, fa, hf⟩ : ∃ fc fa, faultOf nodes es = (fc, fa) := ⟨_, _, rfl⟩
  by_cases hc : fc = 0
  · subst hc
    have h0 : (faultOf nodes es).1 = 0 := by rw [hf]
    have LK := hid_of (fun w1 (K : Kept W0 w1) => HLH.out h0 w1 (KW.trans K) (hG.kept K) (K.cell x10) (K.cell x20) (K.cell c2) ((Below.frozen (p := ⟨w.heap.size + 3, 0, none⟩) K (lt_cell c2)).trans d2))
    have hf0 := hid_of (fault_zero h0)
    have C2H := hid_of c2
    have KWH := hid_of KW
    have HSZ := hid_of hsz
    clear hG x10 x20 d2 hsz hf h0 KW c2 HLH HB
    by_cases hcode : code = 0
    · subst hcode
      refine (looked_ok nodes ao n cap es W0 (HE.out.kept KWH.out) hf0 63 #[.pointer (some ⟨w.heap.size + 1, 0, none⟩), .pointer (some ⟨w.heap.size, 0, none⟩), .pointer (some ⟨w.heap.size + 2, 0, none⟩), .pointer (some ⟨w.heap.size + 3, 0, none⟩)] (fun _ => rfl) (fun k => k = w.heap.size + 3) (fun w2 => w2.cell? ⟨w.heap.size + 3, 0, none⟩ = some (.int .i64 v)) (fun k hk => by subst hk; rw [HSZ.out]; omega)
        (fun w1 K => (LK.out w1 K).mono fun e w3 hp => ?_)).mono ?_
      · rcases hp with ⟨_, h1, wx, Kx, rfl⟩ | ⟨h1, _⟩
        · exact ⟨h1, World.cell?_setCell_same wx _ _ (Kx.cell (K.cell C2H.out)), Ch.setCell (F := fun k => k = w.heap.size + 3) (Ch.of_kept Kx) (p := ⟨w.heap.size + 3, 0, none⟩) rfl _⟩
        · exact absurd rfl h1
      · rintro e wa ⟨rfl, w2, hR, C1, C2⟩
        have c3 := C2.cell hR (by rw [HSZ.out]; omega)
        have HK : Hid (Kept w wa) := KWH.out.ch (C1.trans' C2 (fun i hi => .inr (by omega))) (fun k hk => by subst hk; omega)
        clear hR C1 C2 LK
        go_wp2
        go_ret2
        exact ⟨rfl, HK.out⟩
    · refine (looked_no nodes ao n cap es W0 (HE.out.kept KWH.out) hf0 63 #[.pointer (some ⟨w.heap.size + 1, 0, none⟩), .pointer (some ⟨w.heap.size, 0, none⟩), .pointer (some ⟨w.heap.size + 2, 0, none⟩), .pointer (some ⟨w.heap.size + 3, 0, none⟩)] (fun _ => rfl) code
        (fun w1 K => (LK.out w1 K).mono fun e w3 hp => ?_)).mono ?_
      · rcases hp with ⟨h1, _⟩ | ⟨_, _, h1, h2⟩
        · exact absurd h1 hcode
        · exact ⟨h1, h2⟩
      · rintro e wa ⟨rfl, K1⟩
        have hv : v = 0 := V0.out hcode
        have c3 := K1.cell C2H.out
        have HK := hid_of (KWH.out.trans K1)
        subst hv
        clear K1 LK
        go_wp2
        go_ret2
        exact ⟨rfl, HK.out⟩
  · obtain ⟨rfl, rfl⟩ := HB.out (by rw [hf]; exact hc)
    refine (looked_bad nodes ao n cap es W0 (HE.out.kept KW) fc fa (hid_of hf) hc _).mono ?_
    rintro e wa ⟨rfl, K1⟩
    have c3 := K1.cell c2
    have HK := hid_of (KW.trans K1)
    have e1 : fc = (faultOf nodes es).1 := by rw [hf]
    have E1 := hid_of e1
    clear KW K1 c2 HLH HB e1 hf
    go_wp2
    go_ret2
    exact ⟨by rw [E1.out]; rfl, HK.out⟩

set_option maxRecDepth 100000 in
set_option linter.unusedSimpArgs false in
set_option maxHeartbeats 2000000 in
theorem heavy_wrap (nodes : Int) (ao : Option Addr) (n cap : Nat) (es : List Ed) (mo : Option Addr) (lm mc : Nat) (xo : Option Addr) (lx xc : Nat) (w : World) (h : ERow w ao n cap es) (v code : Int)
    (HL : (faultOf nodes es).1 = 0 → ∀ w1, Kept w w1 → GBox w1 w.heap.size nodes ao n cap → w1.cell? ⟨w.heap.size + 1, 0, none⟩ = some (Value.slice mo lm mc) → w1.cell? ⟨w.heap.size + 2, 0, none⟩ = some (Value.slice xo lx xc) → w1.cell? ⟨w.heap.size + 3, 0, none⟩ = some (.int .i64 0) → w1.frozen? ⟨w.heap.size + 3, 0, none⟩ = false → Calls Tryd.prog 56 #[.pointer (some ⟨w.heap.size + 1, 0, none⟩), .pointer (some ⟨w.heap.size, 0, none⟩), .pointer (some ⟨w.heap.size + 2, 0, none⟩), .pointer (some ⟨w.heap.size + 3, 0, none⟩)] w1 fun e w2 =>
      (code = 0 ∧ e = .returned (.tuple #[]) ∧ ∃ wx, Kept w1 wx ∧ w2 = wx.setCell ⟨w.heap.size + 3, 0, none⟩ (.int .i64 v)) ∨ (code ≠ 0 ∧ v = 0 ∧ e = .panicked [{ v := .iface 140 (.agg #[.int .i64 code]), recovered := false }] ∧ Kept w1 w2))
    (HV : code ≠ 0 → v = 0) (HBad : (faultOf nodes es).1 ≠ 0 → v = 0 ∧ code = (faultOf nodes es).1) :
    Calls Tryd.prog 19 #[.agg #[.int .i64 nodes, .slice ao n cap], .slice mo lm mc, .slice xo lx xc] w fun e w' => e = .returned (.tuple #[.int .i64 v, .int .i64 code]) ∧ Kept w w' := by
  have hmf : ∀ (fn : Fn) (first cap : Array Value) (w : World), (Instr.makeFunc fn first cap).run Tryd.prog w = .ok (.func fn first cap) w := fun _ _ _ _ => rfl
  have KW : Kept w ((((w.alloc (Obj.cells #[.int .i64 nodes, .slice ao n cap] 24)).alloc (Obj.cells #[Value.slice mo lm mc] 25)).alloc (Obj.cells #[Value.slice xo lx xc] 26)).alloc (Obj.cells #[.int .i64 0] 2)) := ((((Kept.refl w).alloc _).alloc _).alloc _).alloc _
  have hsz : ((((w.alloc (Obj.cells #[.int .i64 nodes, .slice ao n cap] 24)).alloc (Obj.cells #[Value.slice mo lm mc] 25)).alloc (Obj.cells #[Value.slice xo lx xc] 26)).alloc (Obj.cells #[.int .i64 0] 2)).heap.size = w.heap.size + 4 := by simp
  have hG : GBox ((((w.alloc (Obj.cells #[.int .i64 nodes, .slice ao n cap] 24)).alloc (Obj.cells #[Value.slice mo lm mc] 25)).alloc (Obj.cells #[Value.slice xo lx xc] 26)).alloc (Obj.cells #[.int .i64 0] 2)) w.heap.size nodes ao n cap := ⟨by simp [go_sem], by simp [go_sem]⟩
  have x10 : ((((w.alloc (Obj.cells #[.int .i64 nodes, .slice ao n cap] 24)).alloc (Obj.cells #[Value.slice mo lm mc] 25)).alloc (Obj.cells #[Value.slice xo lx xc] 26)).alloc (Obj.cells #[.int .i64 0] 2)).cell? ⟨w.heap.size + 1, 0, none⟩ = some (Value.slice mo lm mc) := by simp [go_sem]
  have x20 : ((((w.alloc (Obj.cells #[.int .i64 nodes, .slice ao n cap] 24)).alloc (Obj.cells #[Value.slice mo lm mc] 25)).alloc (Obj.cells #[Value.slice xo lx xc] 26)).alloc (Obj.cells #[.int .i64 0] 2)).cell? ⟨w.heap.size + 2, 0, none⟩ = some (Value.slice xo lx xc) := by simp [go_sem]
  have c2 : ((((w.alloc (Obj.cells #[.int .i64 nodes, .slice ao n cap] 24)).alloc (Obj.cells #[Value.slice mo lm mc] 25)).alloc (Obj.cells #[Value.slice xo lx xc] 26)).alloc (Obj.cells #[.int .i64 0] 2)).cell? ⟨w.heap.size + 3, 0, none⟩ = some (.int .i64 0) := by simp [go_sem]
  have d2 : ((((w.alloc (Obj.cells #[.int .i64 nodes, .slice ao n cap] 24)).alloc (Obj.cells #[Value.slice mo lm mc] 25)).alloc (Obj.cells #[Value.slice xo lx xc] 26)).alloc (Obj.cells #[.int .i64 0] 2)).frozen? ⟨w.heap.size + 3, 0, none⟩ = false := by simp [go_sem]
  have HE := hid_of h
  have V0 := hid_of HV
  have HLH := hid_of HL
  have HB := hid_of HBad
  clear h HL HBad HV
  go_enter Tryd.func19, Tryd.ntmps19
  go_wp2_with fail
  generalize ((((w.alloc (Obj.cells #[.int .i64 nodes, .slice ao n cap] 24)).alloc (Obj.cells #[Value.slice mo lm mc] 25)).alloc (Obj.cells #[Value.slice xo lx xc] 26)).alloc (Obj.cells #[.int .i64 0] 2)) = W0 at KW hsz hG x10 x20 c2 d2 ⊢
  obtain ⟨fc, fa, hf⟩ : ∃ fc fa, faultOf nodes es = (fc, fa) := ⟨_, _, rfl⟩
  by_cases hc : fc = 0
  · subst hc
    have h0 : (faultOf nodes es).1 = 0 := by rw [hf]
    have LK := hid_of (fun w1 (K : Kept W0 w1) => HLH.out h0 w1 (KW.trans K) (hG.kept K) (K.cell x10) (K.cell x20) (K.cell c2) ((Below.frozen (p := ⟨w.heap.size + 3, 0, none⟩) K (lt_cell c2)).trans d2))
    have hf0 := hid_of (fault_zero h0)
    have C2H := hid_of c2
    have KWH := hid_of KW
    have HSZ := hid_of hsz
    clear hG x10 x20 d2 hsz hf h0 KW c2 HLH HB
    by_cases hcode : code = 0
    · subst hcode
      refine (looked_ok nodes ao n cap es W0 (HE.out.kept KWH.out) hf0 56 #[.pointer (some ⟨w.heap.size + 1, 0, none⟩), .pointer (some ⟨w.heap.size, 0, none⟩), .pointer (some ⟨w.heap.size + 2, 0, none⟩), .pointer (some ⟨w.heap.size + 3, 0, none⟩)] (fun _ => rfl) (fun k => k = w.heap.size + 3) (fun w2 => w2.cell? ⟨w.heap.size + 3, 0, none⟩ = some (.int .i64 v)) (fun k hk => by subst hk; rw [HSZ.out]; omega)
        (fun w1 K => (LK.out w1 K).mono fun e w3 hp => ?_)).mono ?_
      · rcases hp with ⟨_, h1, wx, Kx, rfl⟩ | ⟨h1, _⟩
        · exact ⟨h1, World.cell?_setCell_same wx _ _ (Kx.cell (K.cell C2H.out)), Ch.setCell (F := fun k => k = w.heap.size + 3) (Ch.of_kept Kx) (p := ⟨w.heap.size + 3, 0, none⟩) rfl _⟩
        · exact absurd rfl h1
      · rintro e wa ⟨rfl, w2, hR, C1, C2⟩
        have c3 := C2.cell hR (by rw [HSZ.out]; omega)
        have HK : Hid (Kept w wa) := KWH.out.ch (C1.trans' C2 (fun i hi => .inr (by omega))) (fun k hk => by subst hk; omega)
        clear hR C1 C2 LK
        go_wp2
        go_ret2
        exact ⟨rfl, HK.out⟩
    · refine (looked_no nodes ao n cap es W0 (HE.out.kept KWH.out) hf0 56 #[.pointer (some ⟨w.heap.size + 1, 0, none⟩), .pointer (some ⟨w.heap.size, 0, none⟩), .pointer (some ⟨w.heap.size + 2, 0, none⟩), .pointer (some ⟨w.heap.size + 3, 0, none⟩)] (fun _ => rfl) code
        (fun w1 K => (LK.out w1 K).mono fun e w3 hp => ?_)).mono ?_
      · rcases hp with ⟨h1, _⟩ | ⟨_, _, h1, h2⟩
        · exact absurd h1 hcode
        · exact ⟨h1, h2⟩
      · rintro e wa ⟨rfl, K1⟩
        have hv : v = 0 := V0.out hcode
        have c3 := K1.cell C2H.out
        have HK := hid_of (KWH.out.trans K1)
        subst hv
        clear K1 LK
        go_wp2
        go_ret2
        exact ⟨rfl, HK.out⟩
  · obtain ⟨rfl, rfl⟩ := HB.out (by rw [hf]; exact hc)
    refine (looked_bad nodes ao n cap es W0 (HE.out.kept KW) fc fa (hid_of hf) hc _).mono ?_
    rintro e wa ⟨rfl, K1⟩
    have c3 := K1.cell c2
    have HK := hid_of (KW.trans K1)
    have e1 : fc = (faultOf nodes es).1 := by rw [hf]
    have E1 := hid_of e1
    clear KW K1 c2 HLH HB e1 hf
    go_wp2
    go_ret2
    exact ⟨by rw [E1.out]; rfl, HK.out⟩

set_option maxRecDepth 100000 in
set_option linter.unusedSimpArgs false in
set_option maxHeartbeats 2000000 in
theorem cheap_wrap (nodes : Int) (ao : Option Addr) (n cap : Nat) (es : List Ed) (mo : Option Addr) (lm mc : Nat) (yo : Option Addr) (my yc : Nat) (so : Option Addr) (ns sc : Nat) (w : World) (h : ERow w ao n cap es) (v code : Int)
    (HL : (faultOf nodes es).1 = 0 → ∀ w1, Kept w w1 → GBox w1 w.heap.size nodes ao n cap → w1.cell? ⟨w.heap.size + 1, 0, none⟩ = some (Value.slice mo lm mc) → w1.cell? ⟨w.heap.size + 2, 0, none⟩ = some (Value.slice yo my yc) → w1.cell? ⟨w.heap.size + 2, 1, none⟩ = some (Value.slice so ns sc) → w1.cell? ⟨w.heap.size + 3, 0, none⟩ = some (.int .i64 0) → w1.frozen? ⟨w.heap.size + 3, 0, none⟩ = false → Calls Tryd.prog 67 #[.pointer (some ⟨w.heap.size + 1, 0, none⟩), .pointer (some ⟨w.heap.size, 0, none⟩), .pointer (some ⟨w.heap.size + 2, 0, none⟩), .pointer (some ⟨w.heap.size + 3, 0, none⟩)] w1 fun e w2 =>
      (code = 0 ∧ e = .returned (.tuple #[]) ∧ ∃ wx, Kept w1 wx ∧ w2 = wx.setCell ⟨w.heap.size + 3, 0, none⟩ (.int .i64 v)) ∨ (code ≠ 0 ∧ v = 0 ∧ e = .panicked [{ v := .iface 140 (.agg #[.int .i64 code]), recovered := false }] ∧ Kept w1 w2))
    (HV : code ≠ 0 → v = 0) (HBad : (faultOf nodes es).1 ≠ 0 → v = 0 ∧ code = (faultOf nodes es).1) :
    Calls Tryd.prog 27 #[.agg #[.int .i64 nodes, .slice ao n cap], .slice mo lm mc, .agg #[.slice yo my yc, .slice so ns sc]] w fun e w' => e = .returned (.tuple #[.int .i64 v, .int .i64 code]) ∧ Kept w w' := by
  have hmf : ∀ (fn : Fn) (first cap : Array Value) (w : World), (Instr.makeFunc fn first cap).run Tryd.prog w = .ok (.func fn first cap) w := fun _ _ _ _ => rfl
  have KW : Kept w ((((w.alloc (Obj.cells #[.int .i64 nodes, .slice ao n cap] 24)).alloc (Obj.cells #[Value.slice mo lm mc] 25)).alloc (Obj.cells #[Value.slice yo my yc, Value.slice so ns sc] 45)).alloc (Obj.cells #[.int .i64 0] 2)) := ((((Kept.refl w).alloc _).alloc _).alloc _).alloc _
  have hsz : ((((w.alloc (Obj.cells #[.int .i64 nodes, .slice ao n cap] 24)).alloc (Obj.cells #[Value.slice mo lm mc] 25)).alloc (Obj.cells #[Value.slice yo my yc, Value.slice so ns sc] 45)).alloc (Obj.cells #[.int .i64 0] 2)).heap.size = w.heap.size + 4 := by simp
  have hG : GBox ((((w.alloc (Obj.cells #[.int .i64 nodes, .slice ao n cap] 24)).alloc (Obj.cells #[Value.slice mo lm mc] 25)).alloc (Obj.cells #[Value.slice yo my yc, Value.slice so ns sc] 45)).alloc (Obj.cells #[.int .i64 0] 2)) w.heap.size nodes ao n cap := ⟨by simp [go_sem], by simp [go_sem]⟩
  have x10 : ((((w.alloc (Obj.cells #[.int .i64 nodes, .slice ao n cap] 24)).alloc (Obj.cells #[Value.slice mo lm mc] 25)).alloc (Obj.cells #[Value.slice yo my yc, Value.slice so ns sc] 45)).alloc (Obj.cells #[.int .i64 0] 2)).cell? ⟨w.heap.size + 1, 0, none⟩ = some (Value.slice mo lm mc) := by simp [go_sem]
  have x20 : ((((w.alloc (Obj.cells #[.int .i64 nodes, .slice ao n cap] 24)).alloc (Obj.cells #[Value.slice mo lm mc] 25)).alloc (Obj.cells #[Value.slice yo my yc, Value.slice so ns sc] 45)).alloc (Obj.cells #[.int .i64 0] 2)).cell? ⟨w.heap.size + 2, 0, none⟩ = some (Value.slice yo my yc) := by simp [go_sem]
  have x21 : ((((w.alloc (Obj.cells #[.int .i64 nodes, .slice ao n cap] 24)).alloc (Obj.cells #[Value.slice mo lm mc] 25)).alloc (Obj.cells #[Value.slice yo my yc, Value.slice so ns sc] 45)).alloc (Obj.cells #[.int .i64 0] 2)).cell? ⟨w.heap.size + 2, 1, none⟩ = some (Value.slice so ns sc) := by simp [go_sem]
  have c2 : ((((w.alloc (Obj.cells #[.int .i64 nodes, .slice ao n cap] 24)).alloc (Obj.cells #[Value.slice mo lm mc] 25)).alloc (Obj.cells #[Value.slice yo my yc, Value.slice so ns sc] 45)).alloc (Obj.cells #[.int .i64 0] 2)).cell? ⟨w.heap.size + 3, 0, none⟩ = some (.int .i64 0) := by simp [go_sem]
  have d2 : ((((w.alloc (Obj.cells #[.int .i64 nodes, .slice ao n cap] 24)).alloc (Obj.cells #[Value.slice mo lm mc] 25)).alloc (Obj.cells #[Value.slice yo my yc, Value.slice so ns sc] 45)).alloc (Obj.cells #[.int .i64 0] 2)).frozen? ⟨w.heap.size + 3, 0, none⟩ = false := by simp [go_sem]
  have HE := hid_of h
  have V0 := hid_of HV
  have HLH := hid_of HL
  have HB := hid_of HBad
  clear h HL HBad HV
  go_enter Tryd.func27, Tryd.ntmps27
  go_wp2_with fail
  generalize ((((w.alloc (Obj.cells #[.int .i64 nodes, .slice ao n cap] 24)).alloc (Obj.cells #[Value.slice mo lm mc] 25)).alloc (Obj.cells #[Value.slice yo my yc, Value.slice so ns sc] 45)).alloc (Obj.cells #[.int .i64 0] 2)) = W0 at KW hsz hG x10 x20 x21 c2 d2 ⊢
  obtain ⟨fc, fa, hf⟩ : ∃ fc fa, faultOf nodes es = (fc, fa) := ⟨_, _, rfl⟩
  by_cases hc : fc = 0
  · subst hc
    have h0 : (faultOf nodes es).1 = 0 := by rw [hf]
    have LK := hid_of (fun w1 (K : Kept W0 w1) => HLH.out h0 w1 (KW.trans K) (hG.kept K) (K.cell x10) (K.cell x20) (K.cell x21) (K.cell c2) ((Below.frozen (p := ⟨w.heap.size + 3, 0, none⟩) K (lt_cell c2)).trans d2))
    have hf0 := hid_of (fault_zero h0)
    have C2H := hid_of c2
    have KWH := hid_of KW
    have HSZ := hid_of hsz
    clear hG x10 x20 x21 d2 hsz hf h0 KW c2 HLH HB
    by_cases hcode : code = 0
    · subst hcode
      refine (looked_ok nodes ao n cap es W0 (HE.out.kept KWH.out) hf0 67 #[.pointer (some ⟨w.heap.size + 1, 0, none⟩), .pointer (some ⟨w.heap.size, 0, none⟩), .pointer (some ⟨w.heap.size + 2, 0, none⟩), .pointer (some ⟨w.heap.size + 3, 0, none⟩)] (fun _ => rfl) (fun k => k = w.heap.size + 3) (fun w2 => w2.cell? ⟨w.heap.size + 3, 0, none⟩ = some (.int .i64 v)) (fun k hk => by subst hk; rw [HSZ.out]; omega)
        (fun w1 K => (LK.out w1 K).mono fun e w3 hp => ?_)).mono ?_
      · rcases hp with ⟨_, h1, wx, Kx, rfl⟩ | ⟨h1, _⟩
        · exact ⟨h1, World.cell?_setCell_same wx _ _ (Kx.cell (K.cell C2H.out)), Ch.setCell (F := fun k => k = w.heap.size + 3) (Ch.of_kept Kx) (p := ⟨w.heap.size + 3, 0, none⟩) rfl _⟩
        · exact absurd rfl h1
      · rintro e wa ⟨rfl, w2, hR, C1, C2⟩
        have c3 := C2.cell hR (by rw [HSZ.out]; omega)
        have HK : Hid (Kept w wa) := KWH.out.ch (C1.trans' C2 (fun i hi => .inr (by omega))) (fun k hk => by subst hk; omega)
        clear hR C1 C2 LK
        go_wp2
        go_ret2
        exact ⟨rfl, HK.out⟩
    · refine (looked_no nodes ao n cap es W0 (HE.out.kept KWH.out) hf0 67 #[.pointer (some ⟨w.heap.size + 1, 0, none⟩), .pointer (some ⟨w.heap.size, 0, none⟩), .pointer (some ⟨w.heap.size + 2, 0, none⟩), .pointer (some ⟨w.heap.size + 3, 0, none⟩)] (fun _ => rfl) code
        (fun w1 K => (LK.out w1 K).mono fun e w3 hp => ?_)).mono ?_
      · rcases hp with ⟨h1, _⟩ | ⟨_, _, h1, h2⟩
        · exact absurd h1 hcode
        · exact ⟨h1, h2⟩
      · rintro e wa ⟨rfl, K1⟩
        have hv : v = 0 := V0.out hcode
        have c3 := K1.cell C2H.out
        have HK := hid_of (KWH.out.trans K1)
        subst hv
        clear K1 LK
        go_wp2
        go_ret2
        exact ⟨rfl, HK.out⟩
  · obtain ⟨rfl, rfl⟩ := HB.out (by rw [hf]; exact hc)
    refine (looked_bad nodes ao n cap es W0 (HE.out.kept KW) fc fa (hid_of hf) hc _).mono ?_
    rintro e wa ⟨rfl, K1⟩
    have c3 := K1.cell c2
    have HK := hid_of (KW.trans K1)
    have e1 : fc = (faultOf nodes es).1 := by rw [hf]
    have E1 := hid_of e1
    clear KW K1 c2 HLH HB e1 hf
    go_wp2
    go_ret2
    exact ⟨by rw [E1.out]; rfl, HK.out⟩

set_option maxRecDepth 100000 in
set_option linter.unusedSimpArgs false in
set_option maxHeartbeats 2000000 in
theorem many_wrap (nodes : Int) (ao : Option Addr) (n cap : Nat) (es : List Ed) (bo : Option Addr) (mb bc : Nat) (mo : Option Addr) (lm mc : Nat) (xo : Option Addr) (lx xc : Nat) (w : World) (h : ERow w ao n cap es) (v code : Int)
    (HL : (faultOf nodes es).1 = 0 → ∀ w1, Kept w w1 → GBox w1 w.heap.size nodes ao n cap → w1.cell? ⟨w.heap.size + 1, 0, none⟩ = some (Value.slice bo mb bc) → w1.cell? ⟨w.heap.size + 2, 0, none⟩ = some (Value.slice mo lm mc) → w1.cell? ⟨w.heap.size + 3, 0, none⟩ = some (Value.slice xo lx xc) → w1.cell? ⟨w.heap.size + 4, 0, none⟩ = some (.int .i64 0) → w1.frozen? ⟨w.heap.size + 4, 0, none⟩ = false → Calls Tryd.prog 77 #[.pointer (some ⟨w.heap.size, 0, none⟩), .pointer (some ⟨w.heap.size + 1, 0, none⟩), .pointer (some ⟨w.heap.size + 2, 0, none⟩), .pointer (some ⟨w.heap.size + 3, 0, none⟩), .pointer (some ⟨w.heap.size + 4, 0, none⟩)] w1 fun e w2 =>
      (code = 0 ∧ e = .returned (.tuple #[]) ∧ ∃ wx, Kept w1 wx ∧ w2 = wx.setCell ⟨w.heap.size + 4, 0, none⟩ (.int .i64 v)) ∨ (code ≠ 0 ∧ v = 0 ∧ e = .panicked [{ v := .iface 140 (.agg #[.int .i64 code]), recovered := false }] ∧ Kept w1 w2))
    (HV : code ≠ 0 → v = 0) (HBad : (faultOf nodes es).1 ≠ 0 → v = 0 ∧ code = (faultOf nodes es).1) :
    Calls Tryd.prog 32 #[.agg #[.int .i64 nodes, .slice ao n cap], .slice bo mb bc, .slice mo lm mc, .slice xo lx xc] w fun e w' => e = .returned (.tuple #[.int .i64 v, .int .i64 code]) ∧ Kept w w' := by
  have hmf : ∀ (fn : Fn) (first cap : Array Value) (w : World), (Instr.makeFunc fn first cap).run Tryd.prog w = .ok (.func fn first cap) w := fun _ _ _ _ => rfl
  have KW : Kept w (((((w.alloc (Obj.cells #[.int .i64 nodes, .slice ao n cap] 24)).alloc (Obj.cells #[Value.slice bo mb bc] 25)).alloc (Obj.cells #[Value.slice mo lm mc] 25)).alloc (Obj.cells #[Value.slice xo lx xc] 25)).alloc (Obj.cells #[.int .i64 0] 3)) := (((((Kept.refl w).alloc _).alloc _).alloc _).alloc _).alloc _
  have hsz : (((((w.alloc (Obj.cells #[.int .i64 nodes, .slice ao n cap] 24)).alloc (Obj.cells #[Value.slice bo mb bc] 25)).alloc (Obj.cells #[Value.slice mo lm mc] 25)).alloc (Obj.cells #[Value.slice xo lx xc] 25)).alloc (Obj.cells #[.int .i64 0] 3)).heap.size = w.heap.size + 5 := by simp
  have hG : GBox (((((w.alloc (Obj.cells #[.int .i64 nodes, .slice ao n cap] 24)).alloc (Obj.cells #[Value.slice bo mb bc] 25)).alloc (Obj.cells #[Value.slice mo lm mc] 25)).alloc (Obj.cells #[Value.slice xo lx xc] 25)).alloc (Obj.cells #[.int .i64 0] 3)) w.heap.size nodes ao n cap := ⟨by simp [go_sem], by simp [go_sem]⟩
  have x10 : (((((w.alloc (Obj.cells #[.int .i64 nodes, .slice ao n cap] 24)).alloc (Obj.cells #[Value.slice bo mb bc] 25)).alloc (Obj.cells #[Value.slice mo lm mc] 25)).alloc (Obj.cells #[Value.slice xo lx xc] 25)).alloc (Obj.cells #[.int .i64 0] 3)).cell? ⟨w.heap.size + 1, 0, none⟩ = some (Value.slice bo mb bc) := by simp [go_sem]
  have x20 : (((((w.alloc (Obj.cells #[.int .i64 nodes, .slice ao n cap] 24)).alloc (Obj.cells #[Value.slice bo mb bc] 25)).alloc (Obj.cells #[Value.slice mo lm mc] 25)).alloc (Obj.cells #[Value.slice xo lx xc] 25)).alloc (Obj.cells #[.int .i64 0] 3)).cell? ⟨w.heap.size + 2, 0, none⟩ = some (Value.slice mo lm mc) := by simp [go_sem]
  have x30 : (((((w.alloc (Obj.cells #[.int .i64 nodes, .slice ao n cap] 24)).alloc (Obj.cells #[Value.slice bo mb bc] 25)).alloc (Obj.cells #[Value.slice mo lm mc] 25)).alloc (Obj.cells #[Value.slice xo lx xc] 25)).alloc (Obj.cells #[.int .i64 0] 3)).cell? ⟨w.heap.size + 3, 0, none⟩ = some (Value.slice xo lx xc) := by simp [go_sem]
  have c2 : (((((w.alloc (Obj.cells #[.int .i64 nodes, .slice ao n cap] 24)).alloc (Obj.cells #[Value.slice bo mb bc] 25)).alloc (Obj.cells #[Value.slice mo lm mc] 25)).alloc (Obj.cells #[Value.slice xo lx xc] 25)).alloc (Obj.cells #[.int .i64 0] 3)).cell? ⟨w.heap.size + 4, 0, none⟩ = some (.int .i64 0) := by simp [go_sem]
  have d2 : (((((w.alloc (Obj.cells #[.int .i64 nodes, .slice ao n cap] 24)).alloc (Obj.cells #[Value.slice bo mb bc] 25)).alloc (Obj.cells #[Value.slice mo lm mc] 25)).alloc (Obj.cells #[Value.slice xo lx xc] 25)).alloc (Obj.cells #[.int .i64 0] 3)).frozen? ⟨w.heap.size + 4, 0, none⟩ = false := by simp [go_sem]
  have HE := hid_of h
  have V0 := hid_of HV
  have HLH := hid_of HL
  have HB := hid_of HBad
  clear h HL HBad HV
  go_enter Tryd.func32, Tryd.ntmps32
  go_wp2_with fail
  generalize (((((w.alloc (Obj.cells #[.int .i64 nodes, .slice ao n cap] 24)).alloc (Obj.cells #[Value.slice bo mb bc] 25)).alloc (Obj.cells #[Value.slice mo lm mc] 25)).alloc (Obj.cells #[Value.slice xo lx xc] 25)).alloc (Obj.cells #[.int .i64 0] 3)) = W0 at KW hsz hG x10 x20 x30 c2 d2 ⊢
  obtain ⟨fc, fa, hf⟩ : ∃ fc fa, faultOf nodes es = (fc, fa) := ⟨_, _, rfl⟩
  by_cases hc : fc = 0
  · subst hc
    have h0 : (faultOf nodes es).1 = 0 := by rw [hf]
    have LK := hid_of (fun w1 (K : Kept W0 w1) => HLH.out h0 w1 (KW.trans K) (hG.kept K) (K.cell x10) (K.cell x20) (K.cell x30) (K.cell c2) ((Below.frozen (p := ⟨w.heap.size + 4, 0, none⟩) K (lt_cell c2)).trans d2))
    have hf0 := hid_of (fault_zero h0)
    have C2H := hid_of c2
    have KWH := hid_of KW
    have HSZ := hid_of hsz
    clear hG x10 x20 x30 d2 hsz hf h0 KW c2 HLH HB
    by_cases hcode : code = 0
    · subst hcode
      refine (looked_ok nodes ao n cap es W0 (HE.out.kept KWH.out) hf0 77 #[.pointer (some ⟨w.heap.size, 0, none⟩), .pointer (some ⟨w.heap.size + 1, 0, none⟩), .pointer (some ⟨w.heap.size + 2, 0, none⟩), .pointer (some ⟨w.heap.size + 3, 0, none⟩), .pointer (some ⟨w.heap.size + 4, 0, none⟩)] (fun _ => rfl) (fun k => k = w.heap.size + 4) (fun w2 => w2.cell? ⟨w.heap.size + 4, 0, none⟩ = some (.int .i64 v)) (fun k hk => by subst hk; rw [HSZ.out]; omega)
        (fun w1 K => (LK.out w1 K).mono fun e w3 hp => ?_)).mono ?_
      · rcases hp with ⟨_, h1, wx, Kx, rfl⟩ | ⟨h1, _⟩
        · exact ⟨h1, World.cell?_setCell_same wx _ _ (Kx.cell (K.cell C2H.out)), Ch.setCell (F := fun k => k = w.heap.size + 4) (Ch.of_kept Kx) (p := ⟨w.heap.size + 4, 0, none⟩) rfl _⟩
        · exact absurd rfl h1
      · rintro e wa ⟨rfl, w2, hR, C1, C2⟩
        have c3 := C2.cell hR (by rw [HSZ.out]; omega)
        have HK : Hid (Kept w wa) := KWH.out.ch (C1.trans' C2 (fun i hi => .inr (by omega))) (fun k hk => by subst hk; omega)
        clear hR C1 C2 LK
        go_wp2
        go_ret2
        exact ⟨rfl, HK.out⟩
    · refine (looked_no nodes ao n cap es W0 (HE.out.kept KWH.out) hf0 77 #[.pointer (some ⟨w.heap.size, 0, none⟩), .pointer (some ⟨w.heap.size + 1, 0, none⟩), .pointer (some ⟨w.heap.size + 2, 0, none⟩), .pointer (some ⟨w.heap.size + 3, 0, none⟩), .pointer (some ⟨w.heap.size + 4, 0, none⟩)] (fun _ => rfl) code
        (fun w1 K => (LK.out w1 K).mono fun e w3 hp => ?_)).mono ?_
      · rcases hp with ⟨h1, _⟩ | ⟨_, _, h1, h2⟩
        · exact absurd h1 hcode
        · exact ⟨h1, h2⟩
      · rintro e wa ⟨rfl, K1⟩
        have hv : v = 0 := V0.out hcode
        have c3 := K1.cell C2H.out
        have HK := hid_of (KWH.out.trans K1)
        subst hv
        clear K1 LK
        go_wp2
        go_ret2
        exact ⟨rfl, HK.out⟩
  · obtain ⟨rfl, rfl⟩ := HB.out (by rw [hf]; exact hc)
    refine (looked_bad nodes ao n cap es W0 (HE.out.kept KW) fc fa (hid_of hf) hc _).mono ?_
    rintro e wa ⟨rfl, K1⟩
    have c3 := K1.cell c2
    have HK := hid_of (KW.trans K1)
    have e1 : fc = (faultOf nodes es).1 := by rw [hf]
    have E1 := hid_of e1
    clear KW K1 c2 HLH HB e1 hf
    go_wp2
    go_ret2
    exact ⟨by rw [E1.out]; rfl, HK.out⟩

set_option maxRecDepth 100000 in
set_option linter.unusedSimpArgs false in
set_option maxHeartbeats 2000000 in
theorem doubled_wrap (nodes : Int) (ao : Option Addr) (n cap : Nat) (es : List Ed) (mo : Option Addr) (lm mc : Nat) (dO : Option Addr) (nd dc : Nat) (yo : Option Addr) (my yc : Nat) (so : Option Addr) (ns sc : Nat) (w : World) (h : ERow w ao n cap es) (v code : Int)
    (HL : (faultOf nodes es).1 = 0 → ∀ w1, Kept w w1 → GBox w1 w.heap.size nodes ao n cap → w1.cell? ⟨w.heap.size + 1, 0, none⟩ = some (Value.slice mo lm mc) → w1.cell? ⟨w.heap.size + 2, 0, none⟩ = some (Value.slice dO nd dc) → w1.cell? ⟨w.heap.size + 2, 1, none⟩ = some (Value.slice yo my yc) → w1.cell? ⟨w.heap.size + 2, 2, none⟩ = some (Value.slice so ns sc) → w1.cell? ⟨w.heap.size + 3, 0, none⟩ = some (.int .i64 0) → w1.frozen? ⟨w.heap.size + 3, 0, none⟩ = false → Calls Tryd.prog 79 #[.pointer (some ⟨w.heap.size, 0, none⟩), .pointer (some ⟨w.heap.size + 1, 0, none⟩), .pointer (some ⟨w.heap.size + 2, 0, none⟩), .pointer (some ⟨w.heap.size + 3, 0, none⟩)] w1 fun e w2 =>
      (code = 0 ∧ e = .returned (.tuple #[]) ∧ ∃ wx, Kept w1 wx ∧ w2 = wx.setCell ⟨w.heap.size + 3, 0, none⟩ (.int .i64 v)) ∨ (code ≠ 0 ∧ v = 0 ∧ e = .panicked [{ v := .iface 140 (.agg #[.int .i64 code]), recovered := false }] ∧ Kept w1 w2))
    (HV : code ≠ 0 → v = 0) (HBad : (faultOf nodes es).1 ≠ 0 → v = 0 ∧ code = (faultOf nodes es).1) :
    Calls Tryd.prog 35 #[.agg #[.int .i64 nodes, .slice ao n cap], .slice mo lm mc, .agg #[.slice dO nd dc, .slice yo my yc, .slice so ns sc]] w fun e w' => e = .returned (.tuple #[.int .i64 v, .int .i64 code]) ∧ Kept w w' := by
  have hmf : ∀ (fn : Fn) (first cap : Array Value) (w : World), (Instr.makeFunc fn first cap).run Tryd.prog w = .ok (.func fn first cap) w := fun _ _ _ _ => rfl
  have KW : Kept w ((((w.alloc (Obj.cells #[.int .i64 nodes, .slice ao n cap] 24)).alloc (Obj.cells #[Value.slice mo lm mc] 25)).alloc (Obj.cells #[Value.slice dO nd dc, Value.slice yo my yc, Value.slice so ns sc] 65)).alloc (Obj.cells #[.int .i64 0] 2)) := ((((Kept.refl w).alloc _).alloc _).alloc _).alloc _
  have hsz : ((((w.alloc (Obj.cells #[.int .i64 nodes, .slice ao n cap] 24)).alloc (Obj.cells #[Value.slice mo lm mc] 25)).alloc (Obj.cells #[Value.slice dO nd dc, Value.slice yo my yc, Value.slice so ns sc] 65)).alloc (Obj.cells #[.int .i64 0] 2)).heap.size = w.heap.size + 4 := by simp
  have hG : GBox ((((w.alloc (Obj.cells #[.int .i64 nodes, .slice ao n cap] 24)).alloc (Obj.cells #[Value.slice mo lm mc] 25)).alloc (Obj.cells #[Value.slice dO nd dc, Value.slice yo my yc, Value.slice so ns sc] 65)).alloc (Obj.cells #[.int .i64 0] 2)) w.heap.size nodes ao n cap := ⟨by simp [go_sem], by simp [go_sem]⟩
  have x10 : ((((w.alloc (Obj.cells #[.int .i64 nodes, .slice ao n cap] 24)).alloc (Obj.cells #[Value.slice mo lm mc] 25)).alloc (Obj.cells #[Value.slice dO nd dc, Value.slice yo my yc, Value.slice so ns sc] 65)).alloc (Obj.cells #[.int .i64 0] 2)).cell? ⟨w.heap.size + 1, 0, none⟩ = some (Value.slice mo lm mc) := by simp [go_sem]
  have x20 : ((((w.alloc (Obj.cells #[.int .i64 nodes, .slice ao n cap] 24)).alloc (Obj.cells #[Value.slice mo lm mc] 25)).alloc (Obj.cells #[Value.slice dO nd dc, Value.slice yo my yc, Value.slice so ns sc] 65)).alloc (Obj.cells #[.int .i64 0] 2)).cell? ⟨w.heap.size + 2, 0, none⟩ = some (Value.slice dO nd dc) := by simp [go_sem]
  have x21 : ((((w.alloc (Obj.cells #[.int .i64 nodes, .slice ao n cap] 24)).alloc (Obj.cells #[Value.slice mo lm mc] 25)).alloc (Obj.cells #[Value.slice dO nd dc, Value.slice yo my yc, Value.slice so ns sc] 65)).alloc (Obj.cells #[.int .i64 0] 2)).cell? ⟨w.heap.size + 2, 1, none⟩ = some (Value.slice yo my yc) := by simp [go_sem]
  have x22 : ((((w.alloc (Obj.cells #[.int .i64 nodes, .slice ao n cap] 24)).alloc (Obj.cells #[Value.slice mo lm mc] 25)).alloc (Obj.cells #[Value.slice dO nd dc, Value.slice yo my yc, Value.slice so ns sc] 65)).alloc (Obj.cells #[.int .i64 0] 2)).cell? ⟨w.heap.size + 2, 2, none⟩ = some (Value.slice so ns sc) := by simp [go_sem]
  have c2 : ((((w.alloc (Obj.cells #[.int .i64 nodes, .slice ao n cap] 24)).alloc (Obj.cells #[Value.slice mo lm mc] 25)).alloc (Obj.cells #[Value.slice dO nd dc, Value.slice yo my yc, Value.slice so ns sc] 65)).alloc (Obj.cells #[.int .i64 0] 2)).cell? ⟨w.heap.size + 3, 0, none⟩ = some (.int .i64 0) := by simp [go_sem]
  have d2 : ((((w.alloc (Obj.cells #[.int .i64 nodes, .slice ao n cap] 24)).alloc (Obj.cells #[Value.slice mo lm mc] 25)).alloc (Obj.cells #[Value.slice dO nd dc, Value.slice yo my yc, Value.slice so ns sc] 65)).alloc (Obj.cells #[.int .i64 0] 2)).frozen? ⟨w.heap.size + 3, 0, none⟩ = false := by simp [go_sem]
  have HE := hid_of h
  have V0 := hid_of HV
  have HLH := hid_of HL
  have HB := hid_of HBad
  clear h HL HBad HV
  go_enter Tryd.func35, Tryd.ntmps35
  go_wp2_with fail
  generalize ((((w.alloc (Obj.cells #[.int .i64 nodes, .slice ao n cap] 24)).alloc (Obj.cells #[Value.slice mo lm mc] 25)).alloc (Obj.cells #[Value.slice dO nd dc, Value.slice yo my yc, Value.slice so ns sc] 65)).alloc (Obj.cells #[.int .i64 0] 2)) = W0 at KW hsz hG x10 x20 x21 x22 c2 d2 ⊢
  obtain ⟨fc, fa, hf⟩ : ∃ fc fa, faultOf nodes es = (fc, fa) := ⟨_, _, rfl⟩
  by_cases hc : fc = 0
  · subst hc
    have h0 : (faultOf nodes es).1 = 0 := by rw [hf]
    have LK := hid_of (fun w1 (K : Kept W0 w1) => HLH.out h0 w1 (KW.trans K) (hG.kept K) (K.cell x10) (K.cell x20) (K.cell x21) (K.cell x22) (K.cell c2) ((Below.frozen (p := ⟨w.heap.size + 3, 0, none⟩) K (lt_cell c2)).trans d2))
    have hf0 := hid_of (fault_zero h0)
    have C2H := hid_of c2
    have KWH := hid_of KW
    have HSZ := hid_of hsz
    clear hG x10 x20 x21 x22 d2 hsz hf h0 KW c2 HLH HB
    by_cases hcode : code = 0
    · subst hcode
      refine (looked_ok nodes ao n cap es W0 (HE.out.kept KWH.out) hf0 79 #[.pointer (some ⟨w.heap.size, 0, none⟩), .pointer (some ⟨w.heap.size + 1, 0, none⟩), .pointer (some ⟨w.heap.size + 2, 0, none⟩), .pointer (some ⟨w.heap.size + 3, 0, none⟩)] (fun _ => rfl) (fun k => k = w.heap.size + 3) (fun w2 => w2.cell? ⟨w.heap.size + 3, 0, none⟩ = some (.int .i64 v)) (fun k hk => by subst hk; rw [HSZ.out]; omega)
        (fun w1 K => (LK.out w1 K).mono fun e w3 hp => ?_)).mono ?_
      · rcases hp with ⟨_, h1, wx, Kx, rfl⟩ | ⟨h1, _⟩
        · exact ⟨h1, World.cell?_setCell_same wx _ _ (Kx.cell (K.cell C2H.out)), Ch.setCell (F := fun k => k = w.heap.size + 3) (Ch.of_kept Kx) (p := ⟨w.heap.size + 3, 0, none⟩) rfl _⟩
        · exact absurd rfl h1
      · rintro e wa ⟨rfl, w2, hR, C1, C2⟩
        have c3 := C2.cell hR (by rw [HSZ.out]; omega)
        have HK : Hid (Kept w wa) := KWH.out.ch (C1.trans' C2 (fun i hi => .inr (by omega))) (fun k hk => by subst hk; omega)
        clear hR C1 C2 LK
        go_wp2
        go_ret2
        exact ⟨rfl, HK.out⟩
    · refine (looked_no nodes ao n cap es W0 (HE.out.kept KWH.out) hf0 79 #[.pointer (some ⟨w.heap.size, 0, none⟩), .pointer (some ⟨w.heap.size + 1, 0, none⟩), .pointer (some ⟨w.heap.size + 2, 0, none⟩), .pointer (some ⟨w.heap.size + 3, 0, none⟩)] (fun _ => rfl) code
        (fun w1 K => (LK.out w1 K).mono fun e w3 hp => ?_)).mono ?_
      · rcases hp with ⟨h1, _⟩ | ⟨_, _, h1, h2⟩
        · exact absurd h1 hcode
        · exact ⟨h1, h2⟩
      · rintro e wa ⟨rfl, K1⟩
        have hv : v = 0 := V0.out hcode
        have c3 := K1.cell C2H.out
        have HK := hid_of (KWH.out.trans K1)
        subst hv
        clear K1 LK
        go_wp2
        go_ret2
        exact ⟨rfl, HK.out⟩
  · obtain ⟨rfl, rfl⟩ := HB.out (by rw [hf]; exact hc)
    refine (looked_bad nodes ao n cap es W0 (HE.out.kept KW) fc fa (hid_of hf) hc _).mono ?_
    rintro e wa ⟨rfl, K1⟩
    have c3 := K1.cell c2
    have HK := hid_of (KW.trans K1)
    have e1 : fc = (faultOf nodes es).1 := by rw [hf]
    have E1 := hid_of e1
    clear KW K1 c2 HLH HB e1 hf
    go_wp2
    go_ret2
    exact ⟨by rw [E1.out]; rfl, HK.out⟩

end Go.Proofs.YtpdppjngbbkbbaaDoor

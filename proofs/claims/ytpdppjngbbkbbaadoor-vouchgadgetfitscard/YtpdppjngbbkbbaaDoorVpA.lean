/- Gadget: how great what it makes is. -/
import Derived.Test.YtpdppjngbbkbbaaDoorVoZ
namespace Go.Proofs.YtpdppjngbbkbbaaDoor
open Go.RowKit

set_option maxRecDepth 100000 in
set_option linter.unusedSimpArgs false in
set_option maxHeartbeats 4000000 in
theorem gadLook_calls (gb bb rb : Nat) (bo : Option Addr) (mb bc : Nat) (b : List Int) (N : Nat) (ao : Option Addr) (n cap : Nat) (es : List Ed) (w : World) (hG : GBox w gb (N : Int) ao n cap) (hb : w.cell? ⟨bb, 0, none⟩ = some (.slice bo mb bc)) (r0 : w.cell? ⟨rb, 0, none⟩ = some (.int .i64 0)) (r1 : w.cell? ⟨rb, 1, none⟩ = some (.slice none 0 0)) (rf : ∀ o, w.frozen? ⟨rb, o, none⟩ = false) (h : ERow w ao n cap es) (hJ : JRow w bo mb bc b) (RG : Right N n es) :
    Calls Tryd.prog 73 #[.pointer (some ⟨gb, 0, none⟩), .pointer (some ⟨bb, 0, none⟩), .pointer (some ⟨rb, 0, none⟩)] w fun e w' =>
      (¬ BndOk b mb N ∧ e = .panicked [{ v := .iface 140 (.agg #[.int .i64 130]), recovered := false }] ∧ Kept w w') ∨ (BndOk b mb N ∧ ¬ Fits (cpyOf es n b) N es n ∧ e = .panicked [{ v := .iface 140 (.agg #[.int .i64 3]), recovered := false }] ∧ Kept w w') ∨
      (BndOk b mb N ∧ Fits (cpyOf es n b) N es n ∧ e = .returned (.tuple #[]) ∧ ∃ ao' len' cap' wx, Kept w wx ∧ ERow wx ao' len' cap' (gadTo (cpyOf es n b) N es n) ∧ w' = (wx.setCell ⟨rb, 0, none⟩ (.int .i64 (szN (cpyOf es n b) N es n))).setCell ⟨rb, 1, none⟩ (.slice ao' len' cap')) := by
  obtain ⟨g0, g1⟩ := hG
  have C := hid_of (gad_calls N ao n cap es bo mb bc b w h hJ RG)
  have HR0 := hid_of r0
  have HR1 := hid_of r1
  have HRF := hid_of rf
  clear h hJ RG r0 r1 rf
  go_enter Tryd.func73, Tryd.ntmps73
  go_wp2_with fail
  refine C.out.mono ?_
  rintro e wa ⟨K1, ⟨ok, rfl⟩ | ⟨ok, fit, rfl⟩ | ⟨ok, fit, ao', len', cap', rfl, E1⟩⟩
  · have HK := hid_of K1
    clear K1 C g0 g1 hb
    go_wp2
    exact ⟨rfl, .inl ⟨ok, rfl, HK.out⟩⟩
  · have HK := hid_of K1
    clear K1 C g0 g1 hb
    go_wp2
    exact ⟨rfl, .inr (.inl ⟨ok, fit, rfl, HK.out⟩)⟩
  · have s0 := K1.cell HR0.out
    have s1 := K1.cell HR1.out
    have s2 := (Below.frozen (p := ⟨rb, 0, none⟩) K1 (lt_cell HR0.out)).trans (HRF.out 0)
    have s3 := (Below.frozen (p := ⟨rb, 1, none⟩) K1 (lt_cell HR1.out)).trans (HRF.out 1)
    have HK := hid_of K1
    have EH := hid_of E1
    have OK := hid_of ok
    have FT := hid_of fit
    clear K1 C g0 g1 hb E1 ok fit
    go_wp2
    exact bodyPost_end (v := .tuple #[]) (by simp [results, Tryd.results73]) rfl (.inr (.inr ⟨OK.out, FT.out, rfl, ao', len', cap', wa, HK.out, EH.out, rfl⟩))

open Classical in
/-- How many nodes and edges Gadget answers, and its code. -/
noncomputable def gadSize (nodes : Int) (es : List Ed) (n : Nat) (b : List Int) (mb : Nat) : Int × Nat × Int :=
  if (faultOf nodes es).1 ≠ 0 then (0, 0, (faultOf nodes es).1) else if ¬ BndOk b mb nodes.toNat then (0, 0, 130) else if ¬ Fits (cpyOf es n b) nodes.toNat es n then (0, 0, 3) else (szN (cpyOf es n b) nodes.toNat es n, (gadTo (cpyOf es n b) nodes.toNat es n).length, 0)

set_option maxRecDepth 100000 in
set_option linter.unusedSimpArgs false in
set_option maxHeartbeats 4000000 in
theorem gadget_calls (nodes : Int) (ao : Option Addr) (n cap : Nat) (es : List Ed) (bo : Option Addr) (mb bc : Nat) (b : List Int) (w : World) (h : ERow w ao n cap es) (hJ : JRow w bo mb bc b) (N' : Int) (l' : Nat) (code : Int) (hans : Hid (gadSize nodes es n b mb = (N', l', code))) :
    Calls Tryd.prog 30 #[.agg #[.int .i64 nodes, .slice ao n cap], .slice bo mb bc] w fun e w' => (∃ ao' cap', e = .returned (.tuple #[.agg #[.int .i64 N', .slice ao' l' cap'], .int .i64 code])) ∧ Kept w w' := by
  have hmf : ∀ (fn : Fn) (first cap : Array Value) (w : World), (Instr.makeFunc fn first cap).run Tryd.prog w = .ok (.func fn first cap) w := fun _ _ _ _ => rfl
  have KW : Kept w ((((w.alloc (Obj.cells #[.int .i64 nodes, .slice ao n cap] 24)).alloc (Obj.cells #[Value.slice bo mb bc] 25)).alloc (Obj.cells #[.int .i64 0, .slice none 0 0] 24)).alloc (Obj.cells #[.int .i64 0, .slice none 0 0] 24)) := ((((Kept.refl w).alloc _).alloc _).alloc _).alloc _
  have hsz : ((((w.alloc (Obj.cells #[.int .i64 nodes, .slice ao n cap] 24)).alloc (Obj.cells #[Value.slice bo mb bc] 25)).alloc (Obj.cells #[.int .i64 0, .slice none 0 0] 24)).alloc (Obj.cells #[.int .i64 0, .slice none 0 0] 24)).heap.size = w.heap.size + 4 := by simp
  have hG : GBox ((((w.alloc (Obj.cells #[.int .i64 nodes, .slice ao n cap] 24)).alloc (Obj.cells #[Value.slice bo mb bc] 25)).alloc (Obj.cells #[.int .i64 0, .slice none 0 0] 24)).alloc (Obj.cells #[.int .i64 0, .slice none 0 0] 24)) w.heap.size nodes ao n cap := ⟨by simp [go_sem], by simp [go_sem]⟩
  have x1 : ((((w.alloc (Obj.cells #[.int .i64 nodes, .slice ao n cap] 24)).alloc (Obj.cells #[Value.slice bo mb bc] 25)).alloc (Obj.cells #[.int .i64 0, .slice none 0 0] 24)).alloc (Obj.cells #[.int .i64 0, .slice none 0 0] 24)).cell? ⟨w.heap.size + 1, 0, none⟩ = some (Value.slice bo mb bc) := by simp [go_sem]
  have y0 : ((((w.alloc (Obj.cells #[.int .i64 nodes, .slice ao n cap] 24)).alloc (Obj.cells #[Value.slice bo mb bc] 25)).alloc (Obj.cells #[.int .i64 0, .slice none 0 0] 24)).alloc (Obj.cells #[.int .i64 0, .slice none 0 0] 24)).cell? ⟨w.heap.size + 2, 0, none⟩ = some (.int .i64 0) := by simp [go_sem]
  have y1 : ((((w.alloc (Obj.cells #[.int .i64 nodes, .slice ao n cap] 24)).alloc (Obj.cells #[Value.slice bo mb bc] 25)).alloc (Obj.cells #[.int .i64 0, .slice none 0 0] 24)).alloc (Obj.cells #[.int .i64 0, .slice none 0 0] 24)).cell? ⟨w.heap.size + 2, 1, none⟩ = some (.slice none 0 0) := by simp [go_sem]
  have yf : ∀ o, ((((w.alloc (Obj.cells #[.int .i64 nodes, .slice ao n cap] 24)).alloc (Obj.cells #[Value.slice bo mb bc] 25)).alloc (Obj.cells #[.int .i64 0, .slice none 0 0] 24)).alloc (Obj.cells #[.int .i64 0, .slice none 0 0] 24)).frozen? ⟨w.heap.size + 2, o, none⟩ = false := fun o => by simp [go_sem]
  have z0 : ((((w.alloc (Obj.cells #[.int .i64 nodes, .slice ao n cap] 24)).alloc (Obj.cells #[Value.slice bo mb bc] 25)).alloc (Obj.cells #[.int .i64 0, .slice none 0 0] 24)).alloc (Obj.cells #[.int .i64 0, .slice none 0 0] 24)).cell? ⟨w.heap.size + 3, 0, none⟩ = some (.int .i64 0) := by simp [go_sem]
  have z1 : ((((w.alloc (Obj.cells #[.int .i64 nodes, .slice ao n cap] 24)).alloc (Obj.cells #[Value.slice bo mb bc] 25)).alloc (Obj.cells #[.int .i64 0, .slice none 0 0] 24)).alloc (Obj.cells #[.int .i64 0, .slice none 0 0] 24)).cell? ⟨w.heap.size + 3, 1, none⟩ = some (.slice none 0 0) := by simp [go_sem]
  have zf : ∀ o, ((((w.alloc (Obj.cells #[.int .i64 nodes, .slice ao n cap] 24)).alloc (Obj.cells #[Value.slice bo mb bc] 25)).alloc (Obj.cells #[.int .i64 0, .slice none 0 0] 24)).alloc (Obj.cells #[.int .i64 0, .slice none 0 0] 24)).frozen? ⟨w.heap.size + 3, o, none⟩ = false := fun o => by simp [go_sem]
  have ha := hans.out
  unfold gadSize at ha
  have HE := hid_of h
  have HJ := hid_of hJ
  clear h hJ hans
  go_enter Tryd.func30, Tryd.ntmps30
  go_wp2_with fail
  generalize (((w.alloc (Obj.cells #[.int .i64 nodes, .slice ao n cap] 24)).alloc (Obj.cells #[Value.slice bo mb bc] 25)).alloc (Obj.cells #[.int .i64 0, .slice none 0 0] 24)).alloc (Obj.cells #[.int .i64 0, .slice none 0 0] 24) = W0 at KW hsz hG x1 y0 y1 yf z0 z1 zf ⊢
  have KWH := hid_of KW
  have HSZ := hid_of hsz
  have HGH := hid_of hG
  have Y0 := hid_of y0
  have Y1 := hid_of y1
  have YF := hid_of yf
  have Z0 := hid_of z0
  have Z1 := hid_of z1
  have ZF := hid_of zf
  have X1 := hid_of x1
  have HAA := hid_of ha
  clear KW hsz hG x1 y0 y1 yf z0 z1 zf ha
  have FIN : Hid (∀ (wa : World) (a c : Value), Kept w wa → wa.cell? ⟨w.heap.size + 2, 0, none⟩ = some (.int .i64 0) → wa.cell? ⟨w.heap.size + 2, 1, none⟩ = some (.slice none 0 0) →
    ((wa.setCell ⟨w.heap.size + 2, 0, none⟩ a).setCell ⟨w.heap.size + 2, 1, none⟩ c).cell? ⟨w.heap.size + 2, 0, none⟩ = some a ∧ ((wa.setCell ⟨w.heap.size + 2, 0, none⟩ a).setCell ⟨w.heap.size + 2, 1, none⟩ c).cell? ⟨w.heap.size + 2, 1, none⟩ = some c ∧ Kept w ((wa.setCell ⟨w.heap.size + 2, 0, none⟩ a).setCell ⟨w.heap.size + 2, 1, none⟩ c)) := fun wa a c K h0 h1 => by
    obtain ⟨-, -, t3, t4⟩ := box2w h0 h1 a c
    exact ⟨t3, t4, (K.setCell (p := ⟨w.heap.size + 2, 0, none⟩) (by simp) a).setCell (p := ⟨w.heap.size + 2, 1, none⟩) (by simp) c⟩
  obtain ⟨fc, fa, hf⟩ : ∃ fc fa, faultOf nodes es = (fc, fa) := ⟨_, _, rfl⟩
  by_cases hc : fc = 0
  rotate_left
  · have e := HAA.out
    rw [if_pos (by rw [hf]; exact hc), hf] at e
    obtain ⟨rfl, e2⟩ := Prod.mk.inj e
    obtain ⟨rfl, rfl⟩ := Prod.mk.inj e2
    refine (looked_bad nodes ao n cap es W0 (HE.out.kept KWH.out) fc fa (hid_of hf) hc _).mono ?_
    rintro e wa ⟨rfl, K1⟩
    have z0 := K1.cell Z0.out
    have z1 := K1.cell Z1.out
    have y0 := K1.cell Y0.out
    have y1 := K1.cell Y1.out
    have f0 := (Below.frozen (p := ⟨w.heap.size + 2, 0, none⟩) K1 (lt_cell Y0.out)).trans (YF.out 0)
    have f1 := (Below.frozen (p := ⟨w.heap.size + 2, 1, none⟩) K1 (lt_cell Y1.out)).trans (YF.out 1)
    obtain ⟨t3, t4, KF⟩ := FIN.out wa (.int .i64 0) (.slice none 0 0) (KWH.out.trans K1) y0 y1
    have KFH := hid_of KF
    clear K1 KF e e2 hf HAA
    go_wp2
    refine bodyPost_ret (v := .tuple #[.agg #[.int .i64 0, .slice none 0 0], .int .i64 fc]) (by simp [results, Tryd.results30, go_sem, t3, t4]) rfl ⟨⟨none, 0, rfl⟩, KFH.out⟩
  subst hc
  have h0 : (faultOf nodes es).1 = 0 := by rw [hf]
  have hf0 := hid_of (fault_zero h0)
  obtain ⟨N, rfl, RG⟩ := right_of hf0.out
  rw [← HE.out.len] at RG
  have e := HAA.out
  rw [if_neg (by simp [h0]), Int.toNat_natCast] at e
  have LK := hid_of (fun w1 (K : Kept W0 w1) => gadLook_calls w.heap.size (w.heap.size + 1) (w.heap.size + 3) bo mb bc b N ao n cap es w1 (HGH.out.kept K) (K.cell X1.out) (K.cell Z0.out) (K.cell Z1.out) (fun o => (Below.frozen (p := ⟨w.heap.size + 3, o, none⟩) K (by show w.heap.size + 3 < _; rw [HSZ.out]; omega)).trans (ZF.out o)) (HE.out.kept (KWH.out.trans K)) (HJ.out.kept (KWH.out.trans K)) RG)
  clear HAA hf h0 RG
  by_cases hok : BndOk b mb N ∧ Fits (cpyOf es n b) N es n
  · rw [if_neg (fun t => t hok.1), if_neg (fun t => t hok.2)] at e
    obtain ⟨rfl, e2⟩ := Prod.mk.inj e
    obtain ⟨rfl, rfl⟩ := Prod.mk.inj e2
    refine (looked_ok (N : Int) ao n cap es W0 (HE.out.kept KWH.out) hf0 73 #[.pointer (some ⟨w.heap.size, 0, none⟩), .pointer (some ⟨w.heap.size + 1, 0, none⟩), .pointer (some ⟨w.heap.size + 3, 0, none⟩)] (fun _ => rfl) (fun k => k = w.heap.size + 3)
      (fun w2 => ∃ ao' cap', w2.cell? ⟨w.heap.size + 3, 0, none⟩ = some (.int .i64 (szN (cpyOf es n b) N es n)) ∧ w2.cell? ⟨w.heap.size + 3, 1, none⟩ = some (.slice ao' (gadTo (cpyOf es n b) N es n).length cap')) (fun k hk => by subst hk; rw [HSZ.out]; omega)
      (fun w1 K => (LK.out w1 K).mono fun e w3 hp => ?_)).mono ?_
    · rcases hp with ⟨h1, _⟩ | ⟨_, h1, _⟩ | ⟨_, _, h1, ao', len', cap', wx, Kx, Ex, rfl⟩
      · exact absurd hok.1 h1
      · exact absurd hok.2 h1
      · have hl := Ex.len
        subst hl
        obtain ⟨-, -, t3, t4⟩ := box2w (Kx.cell (K.cell Z0.out)) (Kx.cell (K.cell Z1.out)) (.int .i64 (szN (cpyOf es n b) N es n)) (.slice ao' (gadTo (cpyOf es n b) N es n).length cap')
        exact ⟨h1, ⟨ao', cap', t3, t4⟩, Ch.setCell (F := fun k => k = w.heap.size + 3) (Ch.setCell (F := fun k => k = w.heap.size + 3) (Ch.of_kept Kx) (p := ⟨w.heap.size + 3, 0, none⟩) rfl _) (p := ⟨w.heap.size + 3, 1, none⟩) rfl _⟩
    · rintro e wa ⟨rfl, w2, ⟨ao', cap', hR0, hR1⟩, C1, C2⟩
      obtain ⟨A, hA⟩ : ∃ A, szN (cpyOf es n b) N es n = A := ⟨_, rfl⟩
      obtain ⟨L, hL⟩ : ∃ L, (gadTo (cpyOf es n b) N es n).length = L := ⟨_, rfl⟩
      rw [hA] at hR0
      rw [hL] at hR1
      have HA := hid_of hA
      have HL := hid_of hL
      have z0 := C2.cell hR0 (by rw [HSZ.out]; omega)
      have z1 := C2.cell hR1 (by rw [HSZ.out]; omega)
      have y0 := C2.cell (C1.cell Y0.out (by omega)) (by rw [HSZ.out]; omega)
      have y1 := C2.cell (C1.cell Y1.out (by omega)) (by rw [HSZ.out]; omega)
      have C12 : Ch (fun k => k = w.heap.size + 3) W0 wa := C1.trans' C2 (fun i hi => .inr (by omega))
      have f0 := (C12.frozen (b := w.heap.size + 2) (o := 0) (by rw [HSZ.out]; omega) (by omega)).trans (YF.out 0)
      have f1 := (C12.frozen (b := w.heap.size + 2) (o := 1) (by rw [HSZ.out]; omega) (by omega)).trans (YF.out 1)
      have HK : Kept w wa := KWH.out.ch C12 (fun k hk => by subst hk; omega)
      obtain ⟨t3, t4, KF⟩ := FIN.out wa (.int .i64 A) (.slice ao' L cap') HK y0 y1
      have KFH := hid_of KF
      clear KF HK hR0 hR1 C1 C2 C12 LK hA hL e e2
      go_wp2
      refine bodyPost_ret (v := .tuple #[.agg #[.int .i64 A, .slice ao' L cap'], .int .i64 0]) (by simp [results, Tryd.results30, go_sem, t3, t4]) rfl ⟨⟨ao', cap', by rw [HA.out, HL.out]⟩, KFH.out⟩
  · have hcode : ∃ d : Int, code = d ∧ N' = 0 ∧ l' = 0 ∧ ((¬ BndOk b mb N ∧ d = 130) ∨ (BndOk b mb N ∧ d = 3)) := by
      by_cases hb : BndOk b mb N
      · rw [if_neg (fun t => t hb), if_pos (fun t => hok ⟨hb, t⟩)] at e
        obtain ⟨e1, e2⟩ := Prod.mk.inj e
        obtain ⟨e3, e4⟩ := Prod.mk.inj e2
        exact ⟨3, e4.symm, e1.symm, e3.symm, .inr ⟨hb, rfl⟩⟩
      · rw [if_pos hb] at e
        obtain ⟨e1, e2⟩ := Prod.mk.inj e
        obtain ⟨e3, e4⟩ := Prod.mk.inj e2
        exact ⟨130, e4.symm, e1.symm, e3.symm, .inl ⟨hb, rfl⟩⟩
    obtain ⟨d, rfl, rfl, rfl, hd⟩ := hcode
    refine (looked_no (N : Int) ao n cap es W0 (HE.out.kept KWH.out) hf0 73 #[.pointer (some ⟨w.heap.size, 0, none⟩), .pointer (some ⟨w.heap.size + 1, 0, none⟩), .pointer (some ⟨w.heap.size + 3, 0, none⟩)] (fun _ => rfl) code
      (fun w1 K => (LK.out w1 K).mono fun e w3 hp => ?_)).mono ?_
    · rcases hp with ⟨h1, h2, h3⟩ | ⟨h0, h1, h2, h3⟩ | ⟨h0, h1, _⟩
      · rcases hd with ⟨_, rfl⟩ | ⟨t, _⟩
        · exact ⟨h2, h3⟩
        · exact absurd t h1
      · rcases hd with ⟨t, _⟩ | ⟨_, rfl⟩
        · exact absurd h0 t
        · exact ⟨h2, h3⟩
      · exact absurd ⟨h0, h1⟩ hok
    · rintro e wa ⟨rfl, K1⟩
      have z0 := K1.cell Z0.out
      have z1 := K1.cell Z1.out
      have y0 := K1.cell Y0.out
      have y1 := K1.cell Y1.out
      have f0 := (Below.frozen (p := ⟨w.heap.size + 2, 0, none⟩) K1 (lt_cell Y0.out)).trans (YF.out 0)
      have f1 := (Below.frozen (p := ⟨w.heap.size + 2, 1, none⟩) K1 (lt_cell Y1.out)).trans (YF.out 1)
      obtain ⟨t3, t4, KF⟩ := FIN.out wa (.int .i64 0) (.slice none 0 0) (KWH.out.trans K1) y0 y1
      have KFH := hid_of KF
      clear K1 KF e LK hd hok
      go_wp2
      refine bodyPost_ret (v := .tuple #[.agg #[.int .i64 0, .slice none 0 0], .int .i64 code]) (by simp [results, Tryd.results30, go_sem, t3, t4]) rfl ⟨⟨none, 0, rfl⟩, KFH.out⟩
end Go.Proofs.YtpdppjngbbkbbaaDoor

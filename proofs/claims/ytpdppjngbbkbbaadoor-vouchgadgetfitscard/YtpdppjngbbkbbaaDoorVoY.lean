/- Largest, NoPerfect, Matching. -/
import Derived.Test.YtpdppjngbbkbbaaDoorVoX
namespace Go.Proofs.YtpdppjngbbkbbaaDoor
open Go.RowKit

theorem Right.mem {N n : Nat} {es : List Ed} (RG : Right N n es) : ∀ e ∈ es, 0 ≤ e.f ∧ e.f < (N : Int) ∧ 0 ≤ e.t ∧ e.t < (N : Int) := fun e he => by
  obtain ⟨i, hi, rfl⟩ := memW_edAt he
  exact RG.ends i (by rw [RG.len]; exact hi)

/-- A matching with a set that proves it largest. -/
def LarOk (es : List Ed) (N n : Nat) (m : List Int) (lm : Nat) (x : List Int) (lx : Nat) : Prop := MatchOk es n m lm ∧ RiseTo x (N : Int) lx ∧ 2 * (lm : Int) = (N : Int) + (lx : Int) - oddTo es (inTo x lx) N N
/-- A set that proves that no matching takes all nodes. -/
def NopOk (es : List Ed) (N : Nat) (x : List Int) (lx : Nat) : Prop := RiseTo x (N : Int) lx ∧ (lx : Int) < oddTo es (inTo x lx) N N

set_option maxRecDepth 100000 in
set_option linter.unusedSimpArgs false in
set_option maxHeartbeats 4000000 in
theorem largeLook_calls (mb gb xb rb : Nat) (mo : Option Addr) (lm mc : Nat) (m : List Int) (xo : Option Addr) (lx xc : Nat) (x : List Int) (N : Nat) (ao : Option Addr) (n cap : Nat) (es : List Ed) (w : World) (hm : w.cell? ⟨mb, 0, none⟩ = some (.slice mo lm mc)) (hG : GBox w gb (N : Int) ao n cap) (hx : w.cell? ⟨xb, 0, none⟩ = some (.slice xo lx xc)) (r0 : w.cell? ⟨rb, 0, none⟩ = some (.int .i64 0)) (rf : w.frozen? ⟨rb, 0, none⟩ = false) (h : ERow w ao n cap es) (hJ : JRow w mo lm mc m) (hX : JRow w xo lx xc x) (RG : Right N n es) :
    Calls Tryd.prog 63 #[.pointer (some ⟨mb, 0, none⟩), .pointer (some ⟨gb, 0, none⟩), .pointer (some ⟨xb, 0, none⟩), .pointer (some ⟨rb, 0, none⟩)] w fun e w' =>
      (LarOk es N n m lm x lx ∧ e = .returned (.tuple #[]) ∧ ∃ wx, Kept w wx ∧ w' = wx.setCell ⟨rb, 0, none⟩ (.int .i64 (lm : Int))) ∨ (¬ LarOk es N n m lm x lx ∧ e = .panicked [{ v := .iface 140 (.agg #[.int .i64 221]), recovered := false }] ∧ Kept w w') := by
  obtain ⟨g0, g1⟩ := hG
  have hN := RG.nodes
  have hn := RG.edges
  have hr2 := hJ.room
  have hm2 := hJ.most
  have hr3 := hX.room
  have hm3 := hX.most
  unfold maxLen at hm2 hm3
  have HE := hid_of h
  have HJ := hid_of hJ
  have HX := hid_of hX
  have RGH := hid_of RG
  have HR0 := hid_of r0
  have HRF := hid_of rf
  clear h hJ hX RG r0 rf
  go_enter Tryd.func63, Tryd.ntmps63
  go_wp2_with fail
  refine (mustMatch_calls mo lm mc m N ao n cap es w HJ.out HE.out RGH.out).mono ?_
  rintro e wa ⟨K1, ⟨ok, rfl⟩ | ⟨ok, rfl⟩⟩
  rotate_left
  · have HK := hid_of K1
    clear hm g0 g1 hx K1
    go_wp2
    exact ⟨rfl, .inr ⟨fun t => ok t.1, rfl, HK.out⟩⟩
  replace hm := K1.cell hm
  replace g0 := K1.cell g0
  replace g1 := K1.cell g1
  replace hx := K1.cell hx
  have HK := hid_of K1
  have MOK := hid_of ok
  clear K1 ok
  go_wp2_with fail
  refine (mustRise_calls xo lx xc x (N : Int) wa (HX.out.kept HK.out)).mono ?_
  rintro e wb ⟨K2, ⟨ris, rfl⟩ | ⟨ris, rfl⟩⟩
  rotate_left
  · have HK2 := hid_of (HK.out.trans K2)
    clear hm g0 g1 hx K2
    go_wp2
    exact ⟨rfl, .inr ⟨fun t => ris t.2.1, rfl, HK2.out⟩⟩
  replace hm := K2.cell hm
  replace g0 := K2.cell g0
  replace g1 := K2.cell g1
  replace hx := K2.cell hx
  have HK2 := hid_of (HK.out.trans K2)
  have RIS := hid_of ris
  have HMB := hid_of hm
  have lmb : lm ≤ 4096 := by have := MOK.out.1.len_le; omega
  have lxb : lx ≤ 1024 := by have := ris.len_le; omega
  clear K2 HK ris
  have MB := hid_of (fun w' (K : Kept wb w') => members_calls xo lx xc x N hN w' (HX.out.kept (HK2.out.trans K)) (fun j hj => RIS.out.rng hj))
  have OC := hid_of (fun w' q (K : Kept wb w') (B : BlsAt w' q N (inTo x lx)) => odd_calls N hN ao n cap es q (inTo x lx) w' (HE.out.kept (HK2.out.trans K)) hn (hid_of RGH.out.mem) B)
  obtain ⟨o1, o2⟩ := oddTo_bd es (inTo x lx) N N
  obtain ⟨O, hO⟩ : ∃ O, oddTo es (inTo x lx) N N = O := ⟨_, rfl⟩
  rw [hO] at OC o1 o2
  have HO := hid_of hO
  have WR1 : IntKind.i64.wrap (2 * (lm : Int)) = 2 * (lm : Int) := wrap_id (by omega) (by omega)
  have WR2 : IntKind.i64.wrap (IntKind.i64.wrap ((N : Int) + (lx : Int)) - O) = (N : Int) + (lx : Int) - O := by
    rw [wrap_id (x := (N : Int) + (lx : Int)) (by omega) (by omega), wrap_id (by omega) (by omega)]
  clear hO
  by_cases he : 2 * (lm : Int) = (N : Int) + (lx : Int) - O
  · have q : (2 * (lm : Int) == (N : Int) + (lx : Int) - O) = true := by rw [beq_iff_eq]; exact he
    have P : Hid (LarOk es N n m lm x lx) := ⟨MOK.out, RIS.out, by rw [HO.out]; exact he⟩
    clear he o1 o2
    go_wp2_with fail
    refine Ord.region [(0, 1), (1, 0), (2, 0), (3, 0), (4, 1), (5, 1), (6, 0), (7, 0), (8, 1), (9, 1), (10, 0), (11, 1), (12, 2), (13, 2), (14, 0), (15, 0), (16, 2)] (fun w' => Kept wb w') (by kernel_rfl) (by kernel_rfl) (by kernel_rfl) (by kernel_rfl) (fun _ _ d _ _ h => by cases d <;> exact h) ((Kept.refl _).drewN _) ?_
    repeat
      refine Ord.step rfl (fun Ko hK => ?_)
      simp only [Ord.body]
      go_simp
      first
        | (refine hK _ _ ?_; clear hK Ko)
        | (refine ⟨_, fun w' hS => (by have c0 := hS.cell hm; have c1 := hS.cell g0; have c2 := hS.cell g1; have c3 := hS.cell hx; simp only [c0, c1, c2, c3, Result.andThen]; rfl), hK _ _ ?_⟩; clear hK Ko)
        | (go_at_call 52; refine (MB.out _ ((Kept.refl _).drewN _)).mono ?_; rintro e w5 ⟨q1, rfl, hq1, K5, B5⟩; refine ⟨((Kept.refl _).drewN _).trans K5, hK _ _ ?_⟩; clear hK Ko)
        | (go_at_call 64; refine (OC.out _ q1 (((Kept.refl _).drewN _).trans K5) B5).mono ?_; rintro e w6 ⟨rfl, K6⟩; refine ⟨(((Kept.refl _).drewN _).trans K5).trans K6, hK _ _ ?_⟩; clear hK Ko)
        | (go_at_call 51; refine (must_ok _).mono ?_; rintro e w7 ⟨rfl, rfl⟩; refine ⟨(((Kept.refl _).drewN _).trans K5).trans K6, hK _ _ ?_⟩; clear hK Ko)
        | ((simp only [WR1, WR2, q]))
    refine Ord.done ?_
    have KN := hid_of ((((Kept.refl wb).drewN 1).trans K5).trans K6)
    have hm2 := KN.out.cell HMB.out
    have KF := hid_of (HK2.out.trans KN.out)
    have r1 := KF.out.cell HR0.out
    have rf1 := (Below.frozen (p := ⟨rb, 0, none⟩) KF.out (lt_cell HR0.out)).trans HRF.out
    clear K5 K6 B5 hm g0 g1 hx MB OC KN
    go_wp2
    exact bodyPost_end (v := .tuple #[]) (by simp [results, Tryd.results63]) rfl (.inl ⟨P.out, rfl, w6, KF.out, rfl⟩)
  · have q : (2 * (lm : Int) == (N : Int) + (lx : Int) - O) = false := by rw [beq_eq_false_iff_ne]; exact he
    have P : Hid (¬ LarOk es N n m lm x lx) := fun t => he (by rw [← HO.out]; exact t.2.2)
    clear he o1 o2
    go_wp2_with fail
    refine Ord.region [(0, 1), (1, 0), (2, 0), (3, 0), (4, 1), (5, 1), (6, 0), (7, 0), (8, 1), (9, 1), (10, 0), (11, 1), (12, 2), (13, 2), (14, 0), (15, 0), (16, 2)] (fun w' => Kept wb w') (by kernel_rfl) (by kernel_rfl) (by kernel_rfl) (by kernel_rfl) (fun _ _ d _ _ h => by cases d <;> exact h) ((Kept.refl _).drewN _) ?_
    repeat
      refine Ord.step rfl (fun Ko hK => ?_)
      simp only [Ord.body]
      go_simp
      first
        | (refine hK _ _ ?_; clear hK Ko)
        | (refine ⟨_, fun w' hS => (by have c0 := hS.cell hm; have c1 := hS.cell g0; have c2 := hS.cell g1; have c3 := hS.cell hx; simp only [c0, c1, c2, c3, Result.andThen]; rfl), hK _ _ ?_⟩; clear hK Ko)
        | (go_at_call 52; refine (MB.out _ ((Kept.refl _).drewN _)).mono ?_; rintro e w5 ⟨q1, rfl, hq1, K5, B5⟩; refine ⟨((Kept.refl _).drewN _).trans K5, hK _ _ ?_⟩; clear hK Ko)
        | (go_at_call 64; refine (OC.out _ q1 (((Kept.refl _).drewN _).trans K5) B5).mono ?_; rintro e w6 ⟨rfl, K6⟩; refine ⟨(((Kept.refl _).drewN _).trans K5).trans K6, hK _ _ ?_⟩; clear hK Ko)
        | (go_at_call 51; refine (must_no _).mono ?_; rintro e w7 ⟨rfl, rfl⟩)
        | ((simp only [WR1, WR2, q]))
    go_simp
    exact ⟨rfl, .inr ⟨P.out, rfl, HK2.out.trans ((((Kept.refl wb).drewN 1).trans K5).trans K6)⟩⟩

open Classical in
/-- What Largest answers. -/
noncomputable def larAns (nodes : Int) (es : List Ed) (n : Nat) (m : List Int) (lm : Nat) (x : List Int) (lx : Nat) : Int × Int :=
  if (faultOf nodes es).1 ≠ 0 then (0, (faultOf nodes es).1) else if LarOk es nodes.toNat n m lm x lx then ((lm : Int), 0) else (0, 221)

theorem large_calls (nodes : Int) (ao : Option Addr) (n cap : Nat) (es : List Ed) (mo : Option Addr) (lm mc : Nat) (m : List Int) (xo : Option Addr) (lx xc : Nat) (x : List Int) (w : World) (h : ERow w ao n cap es) (hJ : JRow w mo lm mc m) (hX : JRow w xo lx xc x) (v code : Int) (hans : Hid (larAns nodes es n m lm x lx = (v, code))) :
    Calls Tryd.prog 23 #[.agg #[.int .i64 nodes, .slice ao n cap], .slice mo lm mc, .slice xo lx xc] w fun e w' => e = .returned (.tuple #[.int .i64 v, .int .i64 code]) ∧ Kept w w' := by
  have ha := hans.out
  unfold larAns at ha
  refine large_wrap nodes ao n cap es mo lm mc xo lx xc w h v code (fun hc w1 K G a1 a2 r0 rf => ?_) (fun hne => ?_) (fun hc => ?_)
  · rw [if_neg (by simp [hc])] at ha
    obtain ⟨N, rfl, RG⟩ := right_of (fault_zero hc)
    rw [← h.len] at RG
    rw [Int.toNat_natCast] at ha
    refine (largeLook_calls (w.heap.size + 1) w.heap.size (w.heap.size + 2) (w.heap.size + 3) mo lm mc m xo lx xc x N ao n cap es w1 a1 G a2 r0 rf (h.kept K) (hJ.kept K) (hX.kept K) RG).mono fun e w2 hp => ?_
    rcases hp with ⟨ok, h1, wx, Kx, h2⟩ | ⟨ok, h1, h2⟩
    · rw [if_pos ok] at ha
      obtain ⟨rfl, rfl⟩ := Prod.mk.inj ha
      exact .inl ⟨rfl, h1, wx, Kx, h2⟩
    · rw [if_neg ok] at ha
      obtain ⟨rfl, rfl⟩ := Prod.mk.inj ha
      exact .inr ⟨by decide, rfl, h1, h2⟩
  · split at ha
    · exact (Prod.mk.inj ha).1.symm
    · split at ha
      · exact absurd (Prod.mk.inj ha).2.symm hne
      · exact (Prod.mk.inj ha).1.symm
  · rw [if_pos hc] at ha
    obtain ⟨rfl, rfl⟩ := Prod.mk.inj ha
    exact ⟨rfl, rfl⟩

set_option maxRecDepth 100000 in
set_option linter.unusedSimpArgs false in
set_option maxHeartbeats 2000000 in
theorem noPerf_wrap (nodes : Int) (ao : Option Addr) (n cap : Nat) (es : List Ed) (mo : Option Addr) (lm mc : Nat) (w : World) (h : ERow w ao n cap es) (code : Int)
    (HL : (faultOf nodes es).1 = 0 → ∀ w1, Kept w w1 → GBox w1 w.heap.size nodes ao n cap → w1.cell? ⟨w.heap.size + 1, 0, none⟩ = some (.slice mo lm mc) → Calls Tryd.prog 66 #[.pointer (some ⟨w.heap.size + 1, 0, none⟩), .pointer (some ⟨w.heap.size, 0, none⟩)] w1 fun e w2 =>
      Kept w1 w2 ∧ ((code = 0 ∧ e = .returned (.tuple #[])) ∨ (code ≠ 0 ∧ e = .panicked [{ v := .iface 140 (.agg #[.int .i64 code]), recovered := false }])))
    (HBad : (faultOf nodes es).1 ≠ 0 → code = (faultOf nodes es).1) :
    Calls Tryd.prog 25 #[.agg #[.int .i64 nodes, .slice ao n cap], .slice mo lm mc] w fun e w' => e = .returned (.int .i64 code) ∧ Kept w w' := by
  have hmf : ∀ (fn : Fn) (first cap : Array Value) (w : World), (Instr.makeFunc fn first cap).run Tryd.prog w = .ok (.func fn first cap) w := fun _ _ _ _ => rfl
  have KW : Kept w ((w.alloc (Obj.cells #[.int .i64 nodes, .slice ao n cap] 24)).alloc (Obj.cells #[Value.slice mo lm mc] 25)) := ((Kept.refl w).alloc _).alloc _
  have hsz : ((w.alloc (Obj.cells #[.int .i64 nodes, .slice ao n cap] 24)).alloc (Obj.cells #[Value.slice mo lm mc] 25)).heap.size = w.heap.size + 2 := by simp
  have hG : GBox ((w.alloc (Obj.cells #[.int .i64 nodes, .slice ao n cap] 24)).alloc (Obj.cells #[Value.slice mo lm mc] 25)) w.heap.size nodes ao n cap := ⟨by simp [go_sem], by simp [go_sem]⟩
  have x10 : ((w.alloc (Obj.cells #[.int .i64 nodes, .slice ao n cap] 24)).alloc (Obj.cells #[Value.slice mo lm mc] 25)).cell? ⟨w.heap.size + 1, 0, none⟩ = some (Value.slice mo lm mc) := by simp [go_sem]
  have HE := hid_of h
  have HLH := hid_of HL
  have HB := hid_of HBad
  clear h HL HBad
  go_enter Tryd.func25, Tryd.ntmps25
  go_wp2_with fail
  generalize (w.alloc (Obj.cells #[.int .i64 nodes, .slice ao n cap] 24)).alloc (Obj.cells #[Value.slice mo lm mc] 25) = W0 at KW hsz hG x10 ⊢
  obtain ⟨fc, fa, hf⟩ : ∃ fc fa, faultOf nodes es = (fc, fa) := ⟨_, _, rfl⟩
  by_cases hc : fc = 0
  · subst hc
    have h0 : (faultOf nodes es).1 = 0 := by rw [hf]
    have LK := hid_of (fun w1 (K : Kept W0 w1) => HLH.out h0 w1 (KW.trans K) (hG.kept K) (K.cell x10))
    have hf0 := hid_of (fault_zero h0)
    have KWH := hid_of KW
    have HSZ := hid_of hsz
    clear hG x10 hsz hf h0 KW HLH HB
    by_cases hcode : code = 0
    · subst hcode
      refine (looked_ok nodes ao n cap es W0 (HE.out.kept KWH.out) hf0 66 #[.pointer (some ⟨w.heap.size + 1, 0, none⟩), .pointer (some ⟨w.heap.size, 0, none⟩)] (fun _ => rfl) (fun _ => False) (fun _ => True) (fun k hk => hk.elim)
        (fun w1 K => (LK.out w1 K).mono fun e w3 hp => ?_)).mono ?_
      · rcases hp with ⟨K3, ⟨_, h1⟩ | ⟨h1, _⟩⟩
        · exact ⟨h1, trivial, Ch.of_kept K3⟩
        · exact absurd rfl h1
      · rintro e wa ⟨rfl, w2, -, C1, C2⟩
        have HK : Hid (Kept w wa) := KWH.out.ch (Ch.trans' (F := fun k => k = W0.heap.size + 1) (C1.mono (fun _ t => t.elim)) C2 (fun i hi => .inl hi)) (fun k hk => by rw [hk, HSZ.out]; omega)
        clear C1 C2 LK
        go_wp2
        go_ret
        exact ⟨rfl, HK.out⟩
    · refine (looked_no nodes ao n cap es W0 (HE.out.kept KWH.out) hf0 66 #[.pointer (some ⟨w.heap.size + 1, 0, none⟩), .pointer (some ⟨w.heap.size, 0, none⟩)] (fun _ => rfl) code
        (fun w1 K => (LK.out w1 K).mono fun e w3 hp => ?_)).mono ?_
      · rcases hp with ⟨K3, ⟨h1, _⟩ | ⟨_, h1⟩⟩
        · exact absurd h1 hcode
        · exact ⟨h1, K3⟩
      · rintro e wa ⟨rfl, K1⟩
        have HK := hid_of (KWH.out.trans K1)
        clear K1 LK
        go_wp2
        go_ret
        exact ⟨rfl, HK.out⟩
  · obtain rfl := HB.out (by rw [hf]; exact hc)
    refine (looked_bad nodes ao n cap es W0 (HE.out.kept KW) fc fa (hid_of hf) hc _).mono ?_
    rintro e wa ⟨rfl, K1⟩
    have HK := hid_of (KW.trans K1)
    have e1 : fc = (faultOf nodes es).1 := by rw [hf]
    have E1 := hid_of e1
    clear KW K1 HLH HB e1 hf
    go_wp2
    go_ret
    exact ⟨by rw [E1.out]; rfl, HK.out⟩

set_option maxRecDepth 100000 in
set_option linter.unusedSimpArgs false in
set_option maxHeartbeats 2000000 in
theorem matching_wrap (nodes : Int) (ao : Option Addr) (n cap : Nat) (es : List Ed) (mo : Option Addr) (lm mc : Nat) (w : World) (h : ERow w ao n cap es) (code : Int)
    (HL : (faultOf nodes es).1 = 0 → ∀ w1, Kept w w1 → GBox w1 w.heap.size nodes ao n cap → w1.cell? ⟨w.heap.size + 1, 0, none⟩ = some (.slice mo lm mc) → Calls Tryd.prog 61 #[.pointer (some ⟨w.heap.size + 1, 0, none⟩), .pointer (some ⟨w.heap.size, 0, none⟩)] w1 fun e w2 =>
      Kept w1 w2 ∧ ((code = 0 ∧ e = .returned (.tuple #[])) ∨ (code ≠ 0 ∧ e = .panicked [{ v := .iface 140 (.agg #[.int .i64 code]), recovered := false }])))
    (HBad : (faultOf nodes es).1 ≠ 0 → code = (faultOf nodes es).1) :
    Calls Tryd.prog 21 #[.agg #[.int .i64 nodes, .slice ao n cap], .slice mo lm mc] w fun e w' => e = .returned (.int .i64 code) ∧ Kept w w' := by
  have hmf : ∀ (fn : Fn) (first cap : Array Value) (w : World), (Instr.makeFunc fn first cap).run Tryd.prog w = .ok (.func fn first cap) w := fun _ _ _ _ => rfl
  have KW : Kept w ((w.alloc (Obj.cells #[.int .i64 nodes, .slice ao n cap] 24)).alloc (Obj.cells #[Value.slice mo lm mc] 25)) := ((Kept.refl w).alloc _).alloc _
  have hsz : ((w.alloc (Obj.cells #[.int .i64 nodes, .slice ao n cap] 24)).alloc (Obj.cells #[Value.slice mo lm mc] 25)).heap.size = w.heap.size + 2 := by simp
  have hG : GBox ((w.alloc (Obj.cells #[.int .i64 nodes, .slice ao n cap] 24)).alloc (Obj.cells #[Value.slice mo lm mc] 25)) w.heap.size nodes ao n cap := ⟨by simp [go_sem], by simp [go_sem]⟩
  have x10 : ((w.alloc (Obj.cells #[.int .i64 nodes, .slice ao n cap] 24)).alloc (Obj.cells #[Value.slice mo lm mc] 25)).cell? ⟨w.heap.size + 1, 0, none⟩ = some (Value.slice mo lm mc) := by simp [go_sem]
  have HE := hid_of h
  have HLH := hid_of HL
  have HB := hid_of HBad
  clear h HL HBad
  go_enter Tryd.func21, Tryd.ntmps21
  go_wp2_with fail
  generalize (w.alloc (Obj.cells #[.int .i64 nodes, .slice ao n cap] 24)).alloc (Obj.cells #[Value.slice mo lm mc] 25) = W0 at KW hsz hG x10 ⊢
  obtain ⟨fc, fa, hf⟩ : ∃ fc fa, faultOf nodes es = (fc, fa) := ⟨_, _, rfl⟩
  by_cases hc : fc = 0
  · subst hc
    have h0 : (faultOf nodes es).1 = 0 := by rw [hf]
    have LK := hid_of (fun w1 (K : Kept W0 w1) => HLH.out h0 w1 (KW.trans K) (hG.kept K) (K.cell x10))
    have hf0 := hid_of (fault_zero h0)
    have KWH := hid_of KW
    have HSZ := hid_of hsz
    clear hG x10 hsz hf h0 KW HLH HB
    by_cases hcode : code = 0
    · subst hcode
      refine (looked_ok nodes ao n cap es W0 (HE.out.kept KWH.out) hf0 61 #[.pointer (some ⟨w.heap.size + 1, 0, none⟩), .pointer (some ⟨w.heap.size, 0, none⟩)] (fun _ => rfl) (fun _ => False) (fun _ => True) (fun k hk => hk.elim)
        (fun w1 K => (LK.out w1 K).mono fun e w3 hp => ?_)).mono ?_
      · rcases hp with ⟨K3, ⟨_, h1⟩ | ⟨h1, _⟩⟩
        · exact ⟨h1, trivial, Ch.of_kept K3⟩
        · exact absurd rfl h1
      · rintro e wa ⟨rfl, w2, -, C1, C2⟩
        have HK : Hid (Kept w wa) := KWH.out.ch (Ch.trans' (F := fun k => k = W0.heap.size + 1) (C1.mono (fun _ t => t.elim)) C2 (fun i hi => .inl hi)) (fun k hk => by rw [hk, HSZ.out]; omega)
        clear C1 C2 LK
        go_wp2
        go_ret
        exact ⟨rfl, HK.out⟩
    · refine (looked_no nodes ao n cap es W0 (HE.out.kept KWH.out) hf0 61 #[.pointer (some ⟨w.heap.size + 1, 0, none⟩), .pointer (some ⟨w.heap.size, 0, none⟩)] (fun _ => rfl) code
        (fun w1 K => (LK.out w1 K).mono fun e w3 hp => ?_)).mono ?_
      · rcases hp with ⟨K3, ⟨h1, _⟩ | ⟨_, h1⟩⟩
        · exact absurd h1 hcode
        · exact ⟨h1, K3⟩
      · rintro e wa ⟨rfl, K1⟩
        have HK := hid_of (KWH.out.trans K1)
        clear K1 LK
        go_wp2
        go_ret
        exact ⟨rfl, HK.out⟩
  · obtain rfl := HB.out (by rw [hf]; exact hc)
    refine (looked_bad nodes ao n cap es W0 (HE.out.kept KW) fc fa (hid_of hf) hc _).mono ?_
    rintro e wa ⟨rfl, K1⟩
    have HK := hid_of (KW.trans K1)
    have e1 : fc = (faultOf nodes es).1 := by rw [hf]
    have E1 := hid_of e1
    clear KW K1 HLH HB e1 hf
    go_wp2
    go_ret
    exact ⟨by rw [E1.out]; rfl, HK.out⟩

set_option maxRecDepth 100000 in
set_option linter.unusedSimpArgs false in
set_option maxHeartbeats 4000000 in
theorem noLook_calls (xb gb : Nat) (xo : Option Addr) (lx xc : Nat) (x : List Int) (N : Nat) (ao : Option Addr) (n cap : Nat) (es : List Ed) (w : World) (hx : w.cell? ⟨xb, 0, none⟩ = some (.slice xo lx xc)) (hG : GBox w gb (N : Int) ao n cap) (h : ERow w ao n cap es) (hX : JRow w xo lx xc x) (RG : Right N n es) :
    Calls Tryd.prog 66 #[.pointer (some ⟨xb, 0, none⟩), .pointer (some ⟨gb, 0, none⟩)] w fun e w' => Kept w w' ∧ ((NopOk es N x lx ∧ e = .returned (.tuple #[])) ∨ (¬ NopOk es N x lx ∧ e = .panicked [{ v := .iface 140 (.agg #[.int .i64 221]), recovered := false }])) := by
  obtain ⟨g0, g1⟩ := hG
  have hN := RG.nodes
  have hn := RG.edges
  have hr3 := hX.room
  have hm3 := hX.most
  unfold maxLen at hm3
  have HE := hid_of h
  have HX := hid_of hX
  have RGH := hid_of RG
  clear h hX RG
  go_enter Tryd.func66, Tryd.ntmps66
  go_wp2_with fail
  refine (mustRise_calls xo lx xc x (N : Int) w HX.out).mono ?_
  rintro e wb ⟨K2, ⟨ris, rfl⟩ | ⟨ris, rfl⟩⟩
  rotate_left
  · have HK2 := hid_of K2
    clear g0 g1 hx K2
    go_wp2
    exact ⟨rfl, HK2.out, .inr ⟨fun t => ris t.1, rfl⟩⟩
  replace g0 := K2.cell g0
  replace g1 := K2.cell g1
  replace hx := K2.cell hx
  have HK2 := hid_of K2
  have RIS := hid_of ris
  clear K2 ris
  have MB := hid_of (fun w' (K : Kept wb w') => members_calls xo lx xc x N hN w' (HX.out.kept (HK2.out.trans K)) (fun j hj => RIS.out.rng hj))
  have OC := hid_of (fun w' q (K : Kept wb w') (B : BlsAt w' q N (inTo x lx)) => odd_calls N hN ao n cap es q (inTo x lx) w' (HE.out.kept (HK2.out.trans K)) hn (hid_of RGH.out.mem) B)
  obtain ⟨O, hO⟩ : ∃ O, oddTo es (inTo x lx) N N = O := ⟨_, rfl⟩
  rw [hO] at OC
  have HO := hid_of hO
  clear hO
  by_cases he : (lx : Int) < O
  · have q : decide ((lx : Int) < O) = true := decide_eq_true he
    have P : Hid (NopOk es N x lx) := ⟨RIS.out, by rw [HO.out]; exact he⟩
    clear he
    go_wp2_with fail
    refine Ord.region [(0, 1), (1, 1), (2, 0), (3, 1), (6, 1), (7, 0), (4, 2), (5, 2), (8, 0), (9, 2)] (fun w' => Kept wb w') (by kernel_rfl) (by kernel_rfl) (by kernel_rfl) (by kernel_rfl) (fun _ _ d _ _ h => by cases d <;> exact h) ((Kept.refl _).drewN _) ?_
    repeat
      refine Ord.step rfl (fun Ko hK => ?_)
      simp only [Ord.body]
      go_simp
      first
        | (refine hK _ _ ?_; clear hK Ko)
        | (refine ⟨_, fun w' hS => (by have c0 := hS.cell g0; have c1 := hS.cell g1; have c2 := hS.cell hx; simp only [c0, c1, c2, Result.andThen]; rfl), hK _ _ ?_⟩; clear hK Ko)
        | (go_at_call 52; refine (MB.out _ ((Kept.refl _).drewN _)).mono ?_; rintro e w5 ⟨q1, rfl, hq1, K5, B5⟩; refine ⟨((Kept.refl _).drewN _).trans K5, hK _ _ ?_⟩; clear hK Ko)
        | (go_at_call 64; refine (OC.out _ q1 (((Kept.refl _).drewN _).trans K5) B5).mono ?_; rintro e w6 ⟨rfl, K6⟩; refine ⟨(((Kept.refl _).drewN _).trans K5).trans K6, hK _ _ ?_⟩; clear hK Ko)
        | (go_at_call 51; refine (must_ok _).mono ?_; rintro e w7 ⟨rfl, rfl⟩; refine ⟨(((Kept.refl _).drewN _).trans K5).trans K6, hK _ _ ?_⟩; clear hK Ko)
    refine Ord.done ?_
    have KF := hid_of (HK2.out.trans ((((Kept.refl wb).drewN 1).trans K5).trans K6))
    clear K5 K6 B5 g0 g1 hx MB OC
    go_wp2
    exact bodyPost_end (v := .tuple #[]) (by simp [results, Tryd.results66]) rfl ⟨KF.out, .inl ⟨P.out, rfl⟩⟩
  · have q : decide ((lx : Int) < O) = false := decide_eq_false he
    have P : Hid (¬ NopOk es N x lx) := fun t => he (by rw [← HO.out]; exact t.2)
    clear he
    go_wp2_with fail
    refine Ord.region [(0, 1), (1, 1), (2, 0), (3, 1), (6, 1), (7, 0), (4, 2), (5, 2), (8, 0), (9, 2)] (fun w' => Kept wb w') (by kernel_rfl) (by kernel_rfl) (by kernel_rfl) (by kernel_rfl) (fun _ _ d _ _ h => by cases d <;> exact h) ((Kept.refl _).drewN _) ?_
    repeat
      refine Ord.step rfl (fun Ko hK => ?_)
      simp only [Ord.body]
      go_simp
      first
        | (refine hK _ _ ?_; clear hK Ko)
        | (refine ⟨_, fun w' hS => (by have c0 := hS.cell g0; have c1 := hS.cell g1; have c2 := hS.cell hx; simp only [c0, c1, c2, Result.andThen]; rfl), hK _ _ ?_⟩; clear hK Ko)
        | (go_at_call 52; refine (MB.out _ ((Kept.refl _).drewN _)).mono ?_; rintro e w5 ⟨q1, rfl, hq1, K5, B5⟩; refine ⟨((Kept.refl _).drewN _).trans K5, hK _ _ ?_⟩; clear hK Ko)
        | (go_at_call 64; refine (OC.out _ q1 (((Kept.refl _).drewN _).trans K5) B5).mono ?_; rintro e w6 ⟨rfl, K6⟩; refine ⟨(((Kept.refl _).drewN _).trans K5).trans K6, hK _ _ ?_⟩; clear hK Ko)
        | (go_at_call 51; refine (must_no _).mono ?_; rintro e w7 ⟨rfl, rfl⟩)
    go_simp
    exact ⟨rfl, HK2.out.trans ((((Kept.refl wb).drewN 1).trans K5).trans K6), .inr ⟨P.out, rfl⟩⟩

open Classical in
/-- What NoPerfect answers. -/
noncomputable def nopAns (nodes : Int) (es : List Ed) (x : List Int) (lx : Nat) : Int :=
  if (faultOf nodes es).1 ≠ 0 then (faultOf nodes es).1 else if NopOk es nodes.toNat x lx then 0 else 221

theorem noPerf_calls (nodes : Int) (ao : Option Addr) (n cap : Nat) (es : List Ed) (xo : Option Addr) (lx xc : Nat) (x : List Int) (w : World) (h : ERow w ao n cap es) (hX : JRow w xo lx xc x) (code : Int) (hans : Hid (nopAns nodes es x lx = code)) :
    Calls Tryd.prog 25 #[.agg #[.int .i64 nodes, .slice ao n cap], .slice xo lx xc] w fun e w' => e = .returned (.int .i64 code) ∧ Kept w w' := by
  have ha := hans.out
  unfold nopAns at ha
  refine noPerf_wrap nodes ao n cap es xo lx xc w h code (fun hc w1 K G a1 => ?_) (fun hc => ?_)
  · rw [if_neg (by simp [hc])] at ha
    obtain ⟨N, rfl, RG⟩ := right_of (fault_zero hc)
    rw [← h.len] at RG
    rw [Int.toNat_natCast] at ha
    refine (noLook_calls (w.heap.size + 1) w.heap.size xo lx xc x N ao n cap es w1 a1 G (h.kept K) (hX.kept K) RG).mono fun e w2 hp => ?_
    rcases hp with ⟨K2, ⟨ok, h1⟩ | ⟨ok, h1⟩⟩
    · rw [if_pos ok] at ha
      exact ⟨K2, .inl ⟨ha.symm, h1⟩⟩
    · rw [if_neg ok] at ha
      subst ha
      exact ⟨K2, .inr ⟨by decide, h1⟩⟩
  · rw [if_pos hc] at ha
    exact ha.symm

set_option maxRecDepth 100000 in
set_option linter.unusedSimpArgs false in
set_option maxHeartbeats 2000000 in
theorem matchLook_calls (mb gb : Nat) (mo : Option Addr) (lm mc : Nat) (m : List Int) (N : Nat) (ao : Option Addr) (n cap : Nat) (es : List Ed) (w : World) (hm : w.cell? ⟨mb, 0, none⟩ = some (.slice mo lm mc)) (hG : GBox w gb (N : Int) ao n cap) (h : ERow w ao n cap es) (hJ : JRow w mo lm mc m) (RG : Right N n es) :
    Calls Tryd.prog 61 #[.pointer (some ⟨mb, 0, none⟩), .pointer (some ⟨gb, 0, none⟩)] w fun e w' => Kept w w' ∧ ((MatchOk es n m lm ∧ e = .returned (.tuple #[])) ∨ (¬ MatchOk es n m lm ∧ e = .panicked [{ v := .iface 140 (.agg #[.int .i64 221]), recovered := false }])) := by
  obtain ⟨g0, g1⟩ := hG
  have C := hid_of (mustMatch_calls mo lm mc m N ao n cap es w hJ h RG)
  clear hJ h RG
  go_enter Tryd.func61, Tryd.ntmps61
  go_wp2_with fail
  refine C.out.mono ?_
  rintro e wb ⟨K2, ⟨ok, rfl⟩ | ⟨ok, rfl⟩⟩
  · have HK := hid_of K2
    clear K2 C hm g0 g1
    go_wp2
    exact bodyPost_end (v := .tuple #[]) (by simp [results, Tryd.results61]) rfl ⟨HK.out, .inl ⟨ok, rfl⟩⟩
  · have HK := hid_of K2
    clear K2 C hm g0 g1
    go_wp2
    exact ⟨rfl, HK.out, .inr ⟨ok, rfl⟩⟩

open Classical in
/-- What Matching answers. -/
noncomputable def matAns (nodes : Int) (es : List Ed) (n : Nat) (m : List Int) (lm : Nat) : Int :=
  if (faultOf nodes es).1 ≠ 0 then (faultOf nodes es).1 else if MatchOk es n m lm then 0 else 221

theorem matching_calls (nodes : Int) (ao : Option Addr) (n cap : Nat) (es : List Ed) (mo : Option Addr) (lm mc : Nat) (m : List Int) (w : World) (h : ERow w ao n cap es) (hJ : JRow w mo lm mc m) (code : Int) (hans : Hid (matAns nodes es n m lm = code)) :
    Calls Tryd.prog 21 #[.agg #[.int .i64 nodes, .slice ao n cap], .slice mo lm mc] w fun e w' => e = .returned (.int .i64 code) ∧ Kept w w' := by
  have ha := hans.out
  unfold matAns at ha
  refine matching_wrap nodes ao n cap es mo lm mc w h code (fun hc w1 K G a1 => ?_) (fun hc => ?_)
  · rw [if_neg (by simp [hc])] at ha
    obtain ⟨N, rfl, RG⟩ := right_of (fault_zero hc)
    rw [← h.len] at RG
    refine (matchLook_calls (w.heap.size + 1) w.heap.size mo lm mc m N ao n cap es w1 a1 G (h.kept K) (hJ.kept K) RG).mono fun e w2 hp => ?_
    rcases hp with ⟨K2, ⟨ok, h1⟩ | ⟨ok, h1⟩⟩
    · rw [if_pos ok] at ha
      exact ⟨K2, .inl ⟨ha.symm, h1⟩⟩
    · rw [if_neg ok] at ha
      subst ha
      exact ⟨K2, .inr ⟨by decide, h1⟩⟩
  · rw [if_pos hc] at ha
    exact ha.symm
end Go.Proofs.YtpdppjngbbkbbaaDoor

/- NoPlan. -/
import Derived.Test.YtomopfjaebcpeaaPrI
namespace Go.Proofs.Ytomopfjaebcpeaa
open Go.RowKit

/-- What is supplied on a side. -/
def supTo (sup : Nat → Int) (side : Nat → Bool) (k : Nat) : Int := sm (fun v => if side v = true then sup v else 0) k
theorem supTo_succ (sup : Nat → Int) (side : Nat → Bool) (k : Nat) : supTo sup side (k + 1) = supTo sup side k + (if side k = true then sup k else 0) := rfl
theorem supTo_bd {sup : Nat → Int} (side : Nat → Bool) {k : Nat} (h : ∀ i, i < k → -1048576 ≤ sup i ∧ sup i ≤ 1048576) : -(1048576 * (k : Int)) ≤ supTo sup side k ∧ supTo sup side k ≤ 1048576 * (k : Int) :=
  sm_bd fun i hi => by
    have := h i hi
    show -1048576 ≤ (if side i = true then sup i else 0) ∧ (if side i = true then sup i else 0) ≤ 1048576
    split <;> omega
/-- A side from which not so much can leave. -/
def NoOk (es : List Ed) (N n : Nat) (sup : List Int) (bs : List Bool) (k : Nat) : Prop := k = N ∧ cutTo es (bAt bs) n < supTo (zAt sup) (bAt bs) N

set_option maxRecDepth 100000 in
set_option linter.unusedSimpArgs false in
set_option maxHeartbeats 1000000 in
theorem noLook_sup (fb gb sb : Nat) (so : Option Addr) (ms cs : Nat) (sup : List Int) (side : Value) (N : Nat) (hN : N ≤ 1024) (ao : Option Addr) (n cap : Nat) (w : World) (f0 : w.cell? ⟨fb, 0, none⟩ = some (.slice so ms cs)) (_s0 : w.cell? ⟨sb, 0, none⟩ = some side) (hG : GBox w gb (N : Int) ao n cap) (hS : JRow w so ms cs sup) (hb : ¬ SupOk sup ms N) :
    Calls Try.prog 64 #[.pointer (some ⟨fb, 0, none⟩), .pointer (some ⟨gb, 0, none⟩), .pointer (some ⟨sb, 0, none⟩)] w fun e w' => e = .panicked [{ v := .iface 136 (.agg #[.int .i64 130]), recovered := false }] ∧ Kept w w' := by
  obtain ⟨g0, g1⟩ := hG
  have C := hid_of (dsup_calls N hN (.slice ao n cap) so ms cs sup w hS)
  have HB := hid_of hb
  clear hb
  go_enter Try.func64, Try.ntmps64
  go_wp2_with fail
  refine C.out.mono ?_
  rintro e wa ⟨K1, ⟨ok, rfl⟩ | ⟨_, rfl⟩⟩
  · exact absurd ok HB.out
  · have HK := hid_of K1
    clear f0 g0 g1 K1 C
    go_wp2
    exact ⟨rfl, rfl, HK.out⟩

set_option maxRecDepth 100000 in
set_option linter.unusedSimpArgs false in
set_option maxHeartbeats 4000000 in
theorem noLook_calls (fb gb sb : Nat) (so : Option Addr) (cs : Nat) (sup : List Int) (bo : Option Addr) (k bc : Nat) (bs : List Bool) (N : Nat) (ao : Option Addr) (n cap : Nat) (es : List Ed) (w : World) (f0 : w.cell? ⟨fb, 0, none⟩ = some (.slice so N cs)) (s0 : w.cell? ⟨sb, 0, none⟩ = some (.slice bo k bc)) (hG : GBox w gb (N : Int) ao n cap)
    (h : ERow w ao n cap es) (hS : JRow w so N cs sup) (hB : BRow w bo k bc bs) (RG : Right N n es) (hsup : SupOk sup N N) :
    Calls Try.prog 64 #[.pointer (some ⟨fb, 0, none⟩), .pointer (some ⟨gb, 0, none⟩), .pointer (some ⟨sb, 0, none⟩)] w fun e w' =>
      (NoOk es N n sup bs k ∧ e = .returned (.tuple #[]) ∧ Kept w w') ∨ (¬ NoOk es N n sup bs k ∧ e = .panicked [{ v := .iface 136 (.agg #[.int .i64 221]), recovered := false }] ∧ Kept w w') := by
  obtain ⟨g0, g1⟩ := hG
  have hN := RG.nodes
  have HE := hid_of h
  have HS := hid_of hS
  have HB := hid_of hB
  have RGH := hid_of RG
  have hr1 := hS.room
  have hm1 := hS.most
  have hr2 := hB.room
  have hm2 := hB.most
  unfold maxLen at hm1 hm2
  have C0 := hid_of (dsup_calls N hN (.slice ao n cap) so N cs sup w hS)
  have HSU := hid_of hsup
  clear h hS hB RG hsup
  go_enter Try.func64, Try.ntmps64
  go_wp2_with fail
  refine C0.out.mono ?_
  rintro e wa ⟨K1, ⟨_, rfl⟩ | ⟨ok, rfl⟩⟩
  rotate_left
  · exact absurd HSU.out ok
  replace f0 := K1.cell f0
  replace s0 := K1.cell s0
  replace g0 := K1.cell g0
  replace g1 := K1.cell g1
  have HK := hid_of K1
  clear K1 C0
  by_cases hkN : k = N
  rotate_left
  · have q : ((k : Int) == (N : Int)) = false := by simp; omega
    go_wp2_with (go_at_call 53; refine (must_no _).mono ?_; rintro e w' ⟨rfl, rfl⟩)
    exact ⟨rfl, .inr ⟨fun t => hkN t.1, rfl, HK.out⟩⟩
  subst hkN
  have q : ((k : Int) == (k : Int)) = true := by simp
  go_wp2_with (go_at_call 53; refine (must_ok _).mono ?_; rintro e w' ⟨rfl, rfl⟩)
  go_loopw [3, 4, 5, 17] (fun s _ _ i wr => ∃ (v : Nat), v ≤ k ∧ i = .int .i64 v ∧ s = .int .i64 (supTo (zAt sup) (bAt bs) v) ∧ wa = wr) (fun _ _ _ i _ => k - (intOf i).toNat)
  case atStart => exact ⟨0, by omega, rfl, rfl, rfl⟩
  case round =>
    obtain ⟨v, hv2, rfl, rfl, rfl⟩ := hrel
    obtain ⟨b1, b2⟩ := supTo_bd (bAt bs) (k := v) (fun i hi => HSU.out.2.1 i (by omega))
    by_cases hgo : (v : Int) < (k : Int)
    · obtain ⟨bb, off2, rfl, hc2⟩ := (HB.out.kept HK.out).at (by omega)
      have d1 := hc2 v (by omega)
      obtain ⟨b3, off3, rfl, hc3⟩ := (HS.out.kept HK.out).at (by omega)
      have d2 := hc3 v (by omega)
      obtain ⟨x1, x2⟩ := HSU.out.2.1 v (by omega)
      clear hc2 hc3
      have SU := hid_of (supTo_succ (zAt sup) (bAt bs) v)
      have b1' : -1073741824 ≤ supTo (zAt sup) (bAt bs) v := by omega
      have b2' : supTo (zAt sup) (bAt bs) v ≤ 1073741824 := by omega
      clear b1 b2
      generalize supTo (zAt sup) (bAt bs) v = sum at SU b1' b2'
      generalize zAt sup v = x at d2 SU x1 x2
      generalize bAt bs v = p at d1 SU
      cases p
      · have SV := SU.out
        rw [if_neg (by simp), Int.add_zero] at SV
        have SW := hid_of SV
        clear SU SV
        go_wp2_with fail
        go_roundw
        case rel => exact ⟨v + 1, by omega, by go_num, by rw [SW.out], by trivial⟩
        case measure => simp [intOf]; omega
      · have SV := SU.out
        rw [if_pos rfl] at SV
        have SW := hid_of SV
        have WR : IntKind.i64.wrap (sum + x) = sum + x := wrap_id (by omega) (by omega)
        clear SU SV
        go_wp2_with fail
        go_roundw
        case rel => exact ⟨v + 1, by omega, by go_num, by rw [SW.out], by trivial⟩
        case measure => simp [intOf]; omega
    · obtain rfl : v = k := by omega
      have CL := hid_of (leaving_calls (v : Int) ao v n cap es bo bc bs wa (HE.out.kept HK.out) (HB.out.kept HK.out) RGH.out)
      have HIT : Hid (cutTo es (bAt bs) n < supTo (zAt sup) (bAt bs) v → NoOk es v n sup bs v) := fun t => ⟨rfl, t⟩
      have MISS : Hid (¬ cutTo es (bAt bs) n < supTo (zAt sup) (bAt bs) v → ¬ NoOk es v n sup bs v) := fun t q => t q.2
      clear b1 b2
      generalize cutTo es (bAt bs) n = c at CL HIT MISS
      generalize supTo (zAt sup) (bAt bs) v = s at HIT MISS ⊢
      go_wp2_with fail
      refine CL.out.mono ?_
      rintro e wb ⟨rfl, K2⟩
      have HK2 := hid_of (HK.out.trans K2)
      clear K2 HK CL
      by_cases hcs : c < s
      · have P := hid_of (HIT.out hcs)
        have qc : decide (c < s) = true := decide_eq_true hcs
        clear HIT MISS
        go_wp2_with (go_at_call 53; refine (must_ok _).mono ?_; rintro e w' ⟨rfl, rfl⟩)
        exact bodyPost_end (v := .tuple #[]) (by simp [results, Try.results64]) rfl (.inl ⟨P.out, rfl, HK2.out⟩)
      · have P := hid_of (MISS.out (by omega))
        have qc : decide (c < s) = false := decide_eq_false hcs
        clear HIT MISS
        go_wp2_with (go_at_call 53; refine (must_no _).mono ?_; rintro e w' ⟨rfl, rfl⟩)
        exact ⟨rfl, .inr ⟨P.out, rfl, HK2.out⟩⟩

open Classical in
/-- What NoPlan answers. -/
noncomputable def noAns (nodes : Int) (es : List Ed) (n : Nat) (sup : List Int) (ms : Nat) (bs : List Bool) (k : Nat) : Int :=
  if (faultOf nodes es).1 ≠ 0 then (faultOf nodes es).1 else if ¬ SupOk sup ms nodes.toNat then 130
  else if NoOk es nodes.toNat n sup bs k then 0 else 221

set_option maxRecDepth 100000 in
set_option linter.unusedSimpArgs false in
set_option maxHeartbeats 1000000 in
theorem noPlan_wrap (nodes : Int) (ao : Option Addr) (n cap : Nat) (so : Option Addr) (ms cs : Nat) (bo : Option Addr) (k bc : Nat) (w : World) (z : Int)
    (HC : ∀ w1, Kept w w1 → GBox w1 w.heap.size nodes ao n cap → w1.cell? ⟨w.heap.size + 1, 0, none⟩ = some (.slice so ms cs) → w1.cell? ⟨w.heap.size + 2, 0, none⟩ = some (.slice bo k bc) →
      Calls Try.prog 48 #[.agg #[.int .i64 nodes, .slice ao n cap], .func (.func 64) #[] #[.pointer (some ⟨w.heap.size + 1, 0, none⟩), .pointer (some ⟨w.heap.size, 0, none⟩), .pointer (some ⟨w.heap.size + 2, 0, none⟩)]] w1 fun e w2 => e = .returned (.int .i64 z) ∧ Kept w1 w2) :
    Calls Try.prog 20 #[.agg #[.int .i64 nodes, .slice ao n cap], Value.slice so ms cs, .slice bo k bc] w fun e w' => e = .returned (.int .i64 z) ∧ Kept w w' := by
  have hmf : ∀ (fn : Fn) (first cap : Array Value) (w : World), (Instr.makeFunc fn first cap).run Try.prog w = .ok (.func fn first cap) w := fun _ _ _ _ => rfl
  have KW : Kept w (((w.alloc (Obj.cells #[.int .i64 nodes, .slice ao n cap] 24)).alloc (Obj.cells #[Value.slice so ms cs] 25)).alloc (Obj.cells #[Value.slice bo k bc] 26)) := (((Kept.refl w).alloc _).alloc _).alloc _
  have c1 : (((w.alloc (Obj.cells #[.int .i64 nodes, .slice ao n cap] 24)).alloc (Obj.cells #[Value.slice so ms cs] 25)).alloc (Obj.cells #[Value.slice bo k bc] 26)).cell? ⟨w.heap.size + 1, 0, none⟩ = some (.slice so ms cs) := by simp [go_sem]
  have c2 : (((w.alloc (Obj.cells #[.int .i64 nodes, .slice ao n cap] 24)).alloc (Obj.cells #[Value.slice so ms cs] 25)).alloc (Obj.cells #[Value.slice bo k bc] 26)).cell? ⟨w.heap.size + 2, 0, none⟩ = some (.slice bo k bc) := by simp [go_sem]
  have hG : GBox (((w.alloc (Obj.cells #[.int .i64 nodes, .slice ao n cap] 24)).alloc (Obj.cells #[Value.slice so ms cs] 25)).alloc (Obj.cells #[Value.slice bo k bc] 26)) w.heap.size nodes ao n cap := ⟨by simp [go_sem], by simp [go_sem]⟩
  have HCH := hid_of (HC _ KW hG c1 c2)
  clear HC hG c1 c2
  go_enter Try.func20, Try.ntmps20
  go_wp2_with fail
  generalize ((w.alloc (Obj.cells #[.int .i64 nodes, .slice ao n cap] 24)).alloc (Obj.cells #[Value.slice so ms cs] 25)).alloc (Obj.cells #[Value.slice bo k bc] 26) = W0 at KW HCH ⊢
  refine HCH.out.mono ?_
  rintro e wa ⟨rfl, K1⟩
  have HK := hid_of (KW.trans K1)
  clear KW K1 HCH
  go_wp2
  go_ret
  exact ⟨rfl, HK.out⟩

/-- A look that keeps memory comes to its end. -/
theorem looked_okK (nodes : Int) (ao : Option Addr) (n cap : Nat) (es : List Ed) (w : World) (h : ERow w ao n cap es) (hf : Hid (faultOf nodes es = (0, 0))) (cl : Nat) (caps : Array Value) (hcl : ∀ w, Sem.run Try.prog (callFunc cl caps) w = .ok (.enter cl caps) w)
    (HC : ∀ w1, Kept w w1 → Calls Try.prog cl caps w1 fun e w2 => e = .returned (.tuple #[]) ∧ Kept w1 w2) :
    Calls Try.prog 48 #[.agg #[.int .i64 nodes, .slice ao n cap], .func (.func cl) #[] caps] w fun e w' => e = .returned (.int .i64 0) ∧ Kept w w' := by
  refine (looked_ok nodes ao n cap es w h hf cl caps hcl (fun _ => False) (fun _ => True) (fun _ t => t.elim) (fun w1 K => (HC w1 K).mono fun e w2 hp => ⟨hp.1, trivial, Ch.of_kept hp.2⟩)).mono ?_
  rintro e w' ⟨rfl, w2, _, C1, C2⟩
  refine ⟨rfl, ?_⟩
  have k1 := (Kept.refl w).ch C1 (fun k t => t.elim)
  exact k1.ch C2 (fun k t => by subst t; omega)

set_option maxRecDepth 100000 in
theorem noEnter (a b c : Value) : ∀ w, Sem.run Try.prog (callFunc 64 #[a, b, c]) w = .ok (.enter 64 #[a, b, c]) w := fun _ => rfl

theorem noPlan_calls (nodes : Int) (ao : Option Addr) (n cap : Nat) (es : List Ed) (so : Option Addr) (ms cs : Nat) (sup : List Int) (bo : Option Addr) (k bc : Nat) (bs : List Bool) (w : World) (h : ERow w ao n cap es) (hS : JRow w so ms cs sup) (hB : BRow w bo k bc bs) (z : Int) (hans : Hid (noAns nodes es n sup ms bs k = z)) :
    Calls Try.prog 20 #[.agg #[.int .i64 nodes, .slice ao n cap], .slice so ms cs, .slice bo k bc] w fun e w' => e = .returned (.int .i64 z) ∧ Kept w w' := by
  refine noPlan_wrap nodes ao n cap _ _ _ _ _ _ w z fun w1 K1 G c1 c2 => ?_
  replace hans := hans.out
  unfold noAns at hans
  by_cases hc : (faultOf nodes es).1 = 0
  · have hf := fault_zero hc
    rw [if_neg (by simp [hc])] at hans
    obtain ⟨N, rfl, RG⟩ := right_of hf
    rw [← h.len] at RG
    simp only [Int.toNat_natCast] at hans
    by_cases hs : SupOk sup ms N
    · rw [if_neg (fun t => t hs)] at hans
      obtain rfl : ms = N := hs.1
      have L := fun (w2 : World) (K : Kept w1 w2) => noLook_calls (w.heap.size + 1) w.heap.size (w.heap.size + 2) so cs sup bo k bc bs ms ao n cap es w2 (K.cell c1) (K.cell c2) (G.kept K) (h.kept (K1.trans K)) (hS.kept (K1.trans K)) (hB.kept (K1.trans K)) RG hs
      by_cases ok : NoOk es ms n sup bs k
      · rw [if_pos ok] at hans
        subst hans
        exact looked_okK (ms : Int) ao n cap es w1 (h.kept K1) (hid_of hf) 64 #[.pointer (some ⟨w.heap.size + 1, 0, none⟩), .pointer (some ⟨w.heap.size, 0, none⟩), .pointer (some ⟨w.heap.size + 2, 0, none⟩)] (noEnter _ _ _) fun w2 K => (L w2 K).mono fun e w3 hp => by
          rcases hp with ⟨_, h1, h2⟩ | ⟨h1, _⟩
          · exact ⟨h1, h2⟩
          · exact absurd ok h1
      · rw [if_neg ok] at hans
        subst hans
        exact looked_no (ms : Int) ao n cap es w1 (h.kept K1) (hid_of hf) 64 #[.pointer (some ⟨w.heap.size + 1, 0, none⟩), .pointer (some ⟨w.heap.size, 0, none⟩), .pointer (some ⟨w.heap.size + 2, 0, none⟩)] (noEnter _ _ _) 221 fun w2 K => (L w2 K).mono fun e w3 hp => by
          rcases hp with ⟨h1, _⟩ | ⟨_, h1, h2⟩
          · exact absurd h1 ok
          · exact ⟨h1, h2⟩
    · rw [if_pos hs] at hans
      subst hans
      exact looked_no (N : Int) ao n cap es w1 (h.kept K1) (hid_of hf) 64 #[.pointer (some ⟨w.heap.size + 1, 0, none⟩), .pointer (some ⟨w.heap.size, 0, none⟩), .pointer (some ⟨w.heap.size + 2, 0, none⟩)] (noEnter _ _ _) 130 fun w2 K => noLook_sup _ _ _ so ms cs sup _ N RG.nodes ao n cap w2 (K.cell c1) (K.cell c2) (G.kept K) (hS.kept (K1.trans K)) hs
  · obtain ⟨c, a, hf⟩ : ∃ c a, faultOf nodes es = (c, a) := ⟨_, _, rfl⟩
    rw [hf] at hans hc
    rw [if_pos hc] at hans
    subst hans
    exact looked_bad nodes ao n cap es w1 (h.kept K1) c a (hid_of hf) hc _
end Go.Proofs.Ytomopfjaebcpeaa

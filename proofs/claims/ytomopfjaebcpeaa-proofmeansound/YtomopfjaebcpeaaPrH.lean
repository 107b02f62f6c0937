/- demandSupplies; the look of Cheapest. -/
import Derived.Test.YtomopfjaebcpeaaPrG
namespace Go.Proofs.Ytomopfjaebcpeaa
open Go.RowKit

/-- Supplies, one for each node, none beyond the limits, together nothing. -/
def SupOk (sup : List Int) (m N : Nat) : Prop := m = N ∧ (∀ i, i < N → -1048576 ≤ zAt sup i ∧ zAt sup i ≤ 1048576) ∧ sm (zAt sup) N = 0

set_option maxRecDepth 100000 in
set_option linter.unusedSimpArgs false in
set_option maxHeartbeats 2000000 in
theorem dsup_calls (N : Nat) (hN : N ≤ 1024) (s : Value) (bo : Option Addr) (m bc : Nat) (sup : List Int) (w : World) (hJ : JRow w bo m bc sup) :
    Calls Try.prog 58 #[.slice bo m bc, .agg #[.int .i64 (N : Int), s]] w fun e w' => Kept w w' ∧ ((SupOk sup m N ∧ e = .returned (.tuple #[])) ∨ (¬ SupOk sup m N ∧ e = .panicked [{ v := .iface 136 (.agg #[.int .i64 130]), recovered := false }])) := by
  have hr2 := hJ.room
  have hm2 := hJ.most
  unfold maxLen at hm2
  have KW : Kept w (w.alloc (Obj.cells #[.int .i64 (N : Int), s] 24)) := (Kept.refl w).alloc _
  have HJ := hid_of (hJ.kept KW)
  clear hJ
  by_cases hmn : m = N
  · subst hmn
    have q : ((m : Int) == (m : Int)) = true := by simp
    go_enter Try.func58, Try.ntmps58
    go_wp2_with (go_at_call 50; refine (demand_ok _ _).mono ?_; rintro e w' ⟨rfl, rfl⟩)
    generalize w.alloc (Obj.cells #[.int .i64 (m : Int), s] 24) = W1 at KW HJ ⊢
    go_loopw [4, 6, 15] (fun sum _ i wr => ∃ (k : Nat), k ≤ m ∧ i = .int .i64 k ∧ sum = .int .i64 (sm (zAt sup) k) ∧ W1 = wr ∧ ∀ j, j < k → -1048576 ≤ zAt sup j ∧ zAt sup j ≤ 1048576) (fun _ _ i _ => m - (intOf i).toNat)
    case atStart => exact ⟨0, by omega, rfl, rfl, rfl, fun i hi => by omega⟩
    case round =>
      obtain ⟨k, hk, rfl, rfl, rfl, hno⟩ := hrel
      have HNO := hid_of hno
      have sb := sm_bd (f := zAt sup) (k := k) (B := 1048576) hno
      clear hno
      by_cases hgo : (k : Int) < (m : Int)
      · obtain ⟨b2, off2, rfl, hc2⟩ := HJ.out.at (by omega)
        have d5 := hc2 k (by omega)
        clear hc2
        have HIT : Hid ((-1048576 ≤ zAt sup k ∧ zAt sup k ≤ 1048576) → ∀ j, j < k + 1 → -1048576 ≤ zAt sup j ∧ zAt sup j ≤ 1048576) := fun hb i hi => by
          by_cases e : i = k
          · subst e; exact hb
          · exact HNO.out i (by omega)
        have MISS : Hid (¬ (-1048576 ≤ zAt sup k ∧ zAt sup k ≤ 1048576) → ¬ SupOk sup m m) := fun hb t => hb (t.2.1 k (by omega))
        have SU := hid_of (sm_succ (zAt sup) k)
        have sb1 : -1073741824 ≤ sm (zAt sup) k := by omega
        have sb2 : sm (zAt sup) k ≤ 1073741824 := by omega
        clear sb
        generalize sm (zAt sup) k = sum at SU sb1 sb2
        generalize zAt sup k = x at d5 HIT MISS SU
        clear HJ
        by_cases hx : -1048576 ≤ x
        · by_cases hy : x ≤ 1048576
          · have P := hid_of (HIT.out ⟨hx, hy⟩)
            have WR : IntKind.i64.wrap (sum + x) = sum + x := wrap_id (by omega) (by omega)
            clear HIT MISS
            go_wp2_with (go_at_call 50; refine (demand_ok _ _).mono ?_; rintro e w' ⟨rfl, rfl⟩)
            go_roundw
            case rel => exact ⟨k + 1, by omega, by go_num, by rw [SU.out], by trivial, P.out⟩
            case measure => simp [intOf]; omega
          · have P := hid_of (MISS.out (fun t => hy t.2))
            clear HIT MISS
            go_wp2_with (go_at_call 50; refine (demand_no _ _).mono ?_; rintro e w' ⟨rfl, rfl⟩)
            exact ⟨rfl, KW, .inr ⟨P.out, rfl⟩⟩
        · have P := hid_of (MISS.out (fun t => hx t.1))
          clear HIT MISS
          go_wp2_with (go_at_call 50; refine (demand_no _ _).mono ?_; rintro e w' ⟨rfl, rfl⟩)
          exact ⟨rfl, KW, .inr ⟨P.out, rfl⟩⟩
      · obtain rfl : k = m := by omega
        clear sb
        by_cases h0 : sm (zAt sup) k = 0
        · have P : Hid (SupOk sup k k) := ⟨rfl, HNO.out, h0⟩
          have q0 : (sm (zAt sup) k == 0) = true := by simpa using h0
          clear h0
          go_wp2_with (go_at_call 50; refine (demand_ok _ _).mono ?_; rintro e w' ⟨rfl, rfl⟩)
          exact bodyPost_end (v := .tuple #[]) (by simp [results, Try.results58]) rfl ⟨KW, .inl ⟨P.out, rfl⟩⟩
        · have P : Hid (¬ SupOk sup k k) := fun t => h0 t.2.2
          have q0 : (sm (zAt sup) k == 0) = false := by simpa using h0
          clear h0
          go_wp2_with (go_at_call 50; refine (demand_no _ _).mono ?_; rintro e w' ⟨rfl, rfl⟩)
          exact ⟨rfl, KW, .inr ⟨P.out, rfl⟩⟩
  · have q : ((m : Int) == (N : Int)) = false := by simp; omega
    go_enter Try.func58, Try.ntmps58
    go_wp2_with (go_at_call 50; refine (demand_no _ _).mono ?_; rintro e w' ⟨rfl, rfl⟩)
    exact ⟨rfl, KW, .inr ⟨fun t => hmn t.1, rfl⟩⟩

theorem fits_small {N n m : Nat} {es : List Ed} {on : List Int} (RG : Right N n es) (h : FitsOn es on m n) : ∀ i, i < n → 0 ≤ zAt on i ∧ zAt on i ≤ 1048576 := fun i hi => by
  have h1 := h.2 i hi
  have h2 := RG.caps i hi
  omega

/-- A box of three. -/
structure Box3 (w : World) (fb : Nat) (a b c : Value) : Prop where
  f0 : w.cell? ⟨fb, 0, none⟩ = some a
  f1 : w.cell? ⟨fb, 1, none⟩ = some b
  f2 : w.cell? ⟨fb, 2, none⟩ = some c
theorem Box3.kept {w w' : World} {fb : Nat} {a b c : Value} (h : Box3 w fb a b c) (K : Kept w w') : Box3 w' fb a b c := ⟨K.cell h.f0, K.cell h.f1, K.cell h.f2⟩

/-- What potentials prove of amounts at an edge. -/
def EdgeOk (es : List Ed) (on pot : Nat → Int) (i : Nat) : Prop := (redOf es pot i ≤ 0 ∨ on i = 0) ∧ (0 ≤ redOf es pot i ∨ on i = (edAt es i).c)
/-- What amounts and potentials must be to be proved cheapest. -/
def PlanOk (es : List Ed) (N n : Nat) (sup on : List Int) (m : Nat) (pot : List Int) (mp : Nat) : Prop :=
  FitsOn es on m n ∧ PotsOk pot mp N ∧ (∀ v : Nat, v < N → outTo es (zAt on) (v : Int) n = zAt sup v) ∧ ∀ i, i < n → EdgeOk es (zAt on) (zAt pot) i

set_option maxRecDepth 100000 in
set_option linter.unusedSimpArgs false in
set_option maxHeartbeats 1000000 in
theorem planLook_sup (fb gb vb : Nat) (bs : Option Addr) (ms cs : Nat) (sup : List Int) (on pot : Value) (N : Nat) (hN : N ≤ 1024) (ao : Option Addr) (n cap : Nat) (w : World) (hF : Box3 w fb (.slice bs ms cs) on pot) (hG : GBox w gb (N : Int) ao n cap) (hS : JRow w bs ms cs sup) (hb : ¬ SupOk sup ms N) :
    Calls Try.prog 57 #[.pointer (some ⟨fb, 0, none⟩), .pointer (some ⟨gb, 0, none⟩), .pointer (some ⟨vb, 0, none⟩)] w fun e w' => e = .panicked [{ v := .iface 136 (.agg #[.int .i64 130]), recovered := false }] ∧ Kept w w' := by
  obtain ⟨f0, f1, f2⟩ := hF
  obtain ⟨g0, g1⟩ := hG
  have C := hid_of (dsup_calls N hN (.slice ao n cap) bs ms cs sup w hS)
  have HB := hid_of hb
  clear hb
  go_enter Try.func57, Try.ntmps57
  go_wp2_with fail
  refine C.out.mono ?_
  rintro e wa ⟨K1, ⟨ok, rfl⟩ | ⟨_, rfl⟩⟩
  · exact absurd ok HB.out
  · have HK := hid_of K1
    clear f0 f1 f2 g0 g1 K1 C
    go_wp2
    exact ⟨rfl, rfl, HK.out⟩

set_option maxRecDepth 100000 in
set_option linter.unusedSimpArgs false in
set_option maxHeartbeats 4000000 in
theorem planLook_calls (fb gb vb : Nat) (bs : Option Addr) (cs : Nat) (sup : List Int) (bo : Option Addr) (m bc : Nat) (on : List Int) (po : Option Addr) (mp pc : Nat) (pot : List Int) (N : Nat) (ao : Option Addr) (n cap : Nat) (es : List Ed) (w : World) (hF : Box3 w fb (.slice bs N cs) (.slice bo m bc) (.slice po mp pc)) (hG : GBox w gb (N : Int) ao n cap)
    (x0 : Value) (hv : w.cell? ⟨vb, 0, none⟩ = some x0) (hvf : w.frozen? ⟨vb, 0, none⟩ = false) (h : ERow w ao n cap es) (hS : JRow w bs N cs sup) (hJ : JRow w bo m bc on) (hP : JRow w po mp pc pot) (RG : Right N n es) (hsup : SupOk sup N N) :
    Calls Try.prog 57 #[.pointer (some ⟨fb, 0, none⟩), .pointer (some ⟨gb, 0, none⟩), .pointer (some ⟨vb, 0, none⟩)] w fun e w' =>
      (PlanOk es N n sup on m pot mp ∧ e = .returned (.tuple #[]) ∧ ∃ wx, Kept w wx ∧ w' = wx.setCell ⟨vb, 0, none⟩ (.int .i64 (costTo es (zAt on) n))) ∨ (¬ PlanOk es N n sup on m pot mp ∧ e = .panicked [{ v := .iface 136 (.agg #[.int .i64 221]), recovered := false }] ∧ Kept w w') := by
  obtain ⟨f0, f1, f2⟩ := hF
  obtain ⟨g0, g1⟩ := hG
  have hN := RG.nodes
  have HE := hid_of h
  have HS := hid_of hS
  have HJ := hid_of hJ
  have HP := hid_of hP
  have RGH := hid_of RG
  have hr1 := hS.room
  have hm1 := hS.most
  have hr2 := hJ.room
  have hm2 := hJ.most
  have hr3 := hP.room
  have hm3 := hP.most
  have hr4 := h.room
  have hm4 := h.most
  unfold maxLen at hm1 hm2 hm3 hm4
  have C0 := hid_of (dsup_calls N hN (.slice ao n cap) bs N cs sup w hS)
  have HSU := hid_of hsup
  clear h hJ hS hP RG hsup
  go_enter Try.func57, Try.ntmps57
  go_wp2_with fail
  refine C0.out.mono ?_
  rintro e wa ⟨K1, ⟨_, rfl⟩ | ⟨ok, rfl⟩⟩
  rotate_left
  · exact absurd HSU.out ok
  replace f0 := K1.cell f0
  replace f1 := K1.cell f1
  replace f2 := K1.cell f2
  replace g0 := K1.cell g0
  replace g1 := K1.cell g1
  have HK := hid_of K1
  clear K1 C0
  go_wp2_with fail
  refine (mustFit_calls (N : Int) ao n cap es bo m bc on wa (HE.out.kept HK.out) (HJ.out.kept HK.out)).mono ?_
  rintro e wb ⟨K2, ⟨fit, rfl⟩ | ⟨fit, rfl⟩⟩
  rotate_left
  · have HK2 := hid_of (HK.out.trans K2)
    clear f0 f1 f2 g0 g1 HK K2
    go_wp2
    exact ⟨rfl, .inr ⟨fun t => fit t.1, rfl, HK2.out⟩⟩
  replace f0 := K2.cell f0
  replace f1 := K2.cell f1
  replace f2 := K2.cell f2
  replace g0 := K2.cell g0
  replace g1 := K2.cell g1
  have HK2 := hid_of (HK.out.trans K2)
  have FIT := hid_of fit
  clear K2 HK fit
  go_wp2_with fail
  refine (mustPot_calls N (.slice ao n cap) po mp pc pot wb (HP.out.kept HK2.out)).mono ?_
  rintro e wc ⟨K3, ⟨pok, rfl⟩ | ⟨pok, rfl⟩⟩
  rotate_left
  · have HK3 := hid_of (HK2.out.trans K3)
    clear f0 f1 f2 g0 g1 HK2 K3
    go_wp2
    exact ⟨rfl, .inr ⟨fun t => pok t.2.1, rfl, HK3.out⟩⟩
  replace f0 := K3.cell f0
  replace f1 := K3.cell f1
  replace f2 := K3.cell f2
  replace g0 := K3.cell g0
  replace g1 := K3.cell g1
  have HK3 := hid_of (HK2.out.trans K3)
  have POK := hid_of pok
  clear K3 HK2 pok
  obtain rfl : m = n := FIT.out.1
  obtain rfl : mp = N := POK.out.1
  have SM := hid_of (fits_small RGH.out FIT.out)
  go_wp2_with fail
  refine (surplus_calls ao mp m cap es bo bc on wc (HE.out.kept HK3.out) (HJ.out.kept HK3.out) RGH.out SM.out).mono ?_
  rintro e wd ⟨g, rfl, L4, K4⟩
  replace f0 := K4.cell f0
  replace f1 := K4.cell f1
  replace f2 := K4.cell f2
  replace g0 := K4.cell g0
  replace g1 := K4.cell g1
  have HK4 := hid_of (HK3.out.trans K4)
  have L4H := hid_of L4
  clear K4 HK3 L4
  go_wp2_with fail
  go_loopw [3, 4, 25] (fun _ _ i wr => ∃ (v : Nat), v ≤ mp ∧ i = .int .i64 v ∧ wd = wr ∧ ∀ u : Nat, u < v → outTo es (zAt on) (u : Int) m = zAt sup u) (fun _ _ i _ => mp - (intOf i).toNat)
  case atStart => exact ⟨0, by omega, rfl, rfl, fun i hi => by omega⟩
  case round =>
    obtain ⟨v, hv2, rfl, rfl, hno⟩ := hrel
    have HNO := hid_of hno
    clear hno
    by_cases hgo : (v : Int) < (mp : Int)
    · have d1 := L4H.out.cell (i := v) (by omega)
      obtain ⟨b2, off2, rfl, hc2⟩ := (HS.out.kept HK4.out).at (by omega)
      have d2 := hc2 v (by omega)
      clear hc2
      have HIT : Hid (outTo es (zAt on) (v : Int) m = zAt sup v → ∀ u : Nat, u < v + 1 → outTo es (zAt on) (u : Int) m = zAt sup u) := fun hb i hi => by
        by_cases e : i = v
        · subst e; exact hb
        · exact HNO.out i (by omega)
      have MISS : Hid (¬ outTo es (zAt on) (v : Int) m = zAt sup v → ¬ PlanOk es mp m sup on m pot mp) := fun hb q => hb (q.2.2.1 v (by omega))
      generalize outTo es (zAt on) (v : Int) m = x at d1 HIT MISS
      generalize zAt sup v = y at d2 HIT MISS
      by_cases h0 : x = y
      · have P := hid_of (HIT.out h0)
        have q0 : (x == y) = true := by simpa using h0
        clear HIT MISS h0
        go_wp2_with (go_at_call 53; refine (must_ok _).mono ?_; rintro e w' ⟨rfl, rfl⟩)
        go_roundw
        case rel => exact ⟨v + 1, by omega, by go_num, by trivial, P.out⟩
        case measure => simp [intOf]; omega
      · have P := hid_of (MISS.out h0)
        have q0 : (x == y) = false := by simpa using h0
        clear HIT MISS h0
        go_wp2_with (go_at_call 53; refine (must_no _).mono ?_; rintro e w' ⟨rfl, rfl⟩)
        exact ⟨rfl, .inr ⟨P.out, rfl, HK4.out⟩⟩
    · obtain rfl : v = mp := by omega
      have SUP := hid_of HNO.out
      clear HNO L4H
      have CR := hid_of (fun (e : Ed) (w' : World) (K : Kept wd w') (h1 : 0 ≤ e.f) (h2 : e.f < (v : Int)) (h3 : 0 ≤ e.t) (h4 : e.t < (v : Int)) (h5 : -1048576 ≤ e.k) (h6 : e.k ≤ 1048576) => reduced_calls e v po pc pot w' (HP.out.kept (HK4.out.trans K)) h1 h2 h3 h4 h5 h6 POK.out.2)
      go_wp2_with fail
      go_loopw [5, 6, 7, 42] (fun _ _ _ i wr => ∃ (k : Nat), k ≤ m ∧ i = .int .i64 k ∧ Kept wd wr ∧ ∀ j, j < k → EdgeOk es (zAt on) (zAt pot) j) (fun _ _ _ i _ => m - (intOf i).toNat)
      case atStart => exact ⟨0, by omega, rfl, Kept.refl _, fun i hi => by omega⟩
      case round =>
        obtain ⟨k, hk, rfl, K, hno⟩ := hrel
        have HNO := hid_of hno
        clear hno
        replace f1 := K.cell f1
        replace f2 := K.cell f2
        by_cases hgo2 : (k : Int) < (m : Int)
        · obtain ⟨b, off, rfl, hc⟩ := (HE.out.kept (HK4.out.trans K)).cell (by omega)
          obtain ⟨d1, d2, d3, d4⟩ := hc k (by omega)
          obtain ⟨e1, e2, e3, e4⟩ := RGH.out.ends k (by omega)
          obtain ⟨l1, l2⟩ := RGH.out.costs k (by omega)
          obtain ⟨b2, off2, rfl, hc2⟩ := (HJ.out.kept (HK4.out.trans K)).at (by omega)
          have d5 := hc2 k (by omega)
          clear hc hc2
          have HIT : Hid (EdgeOk es (zAt on) (zAt pot) k → ∀ j, j < k + 1 → EdgeOk es (zAt on) (zAt pot) j) := fun hb i hi => by
            by_cases e : i = k
            · subst e; exact hb
            · exact HNO.out i (by omega)
          have MISS : Hid (¬ EdgeOk es (zAt on) (zAt pot) k → ¬ PlanOk es v m sup on m pot v) := fun hb q => hb (q.2.2.2 k (by omega))
          have C1 := hid_of (fun w' K => CR.out (edAt es k) w' K e1 e2 e3 e4 l1 l2)
          unfold EdgeOk redOf at HIT MISS
          clear e1 e2 e3 e4 l1 l2
          generalize (edAt es k).k + zAt pot (edAt es k).f.toNat - zAt pot (edAt es k).t.toNat = r at HIT MISS C1
          generalize zAt on k = x at d5 HIT MISS
          generalize edAt es k = e at d1 d2 d3 d4 HIT MISS C1
          obtain ⟨ef, et, ec, ek⟩ := e
          simp only at d1 d2 d3 d4 HIT MISS C1
          have KE := K.alloc (Obj.cells #[.int .i64 ef, .int .i64 et, .int .i64 ec, .int .i64 ek] 98)
          have KA := (Kept.refl wr).alloc (Obj.cells #[.int .i64 ef, .int .i64 et, .int .i64 ec, .int .i64 ek] 98)
          replace d5 := KA.cell d5
          replace f1 := KA.cell f1
          replace f2 := KA.cell f2
          have d7 : (wr.alloc (Obj.cells #[.int .i64 ef, .int .i64 et, .int .i64 ec, .int .i64 ek] 98)).cell? ⟨wr.heap.size, 2, none⟩ = some (.int .i64 ec) := by simp [go_sem]
          clear KA
          go_wp2_with fail
          generalize wr.alloc (Obj.cells #[.int .i64 ef, .int .i64 et, .int .i64 ec, .int .i64 ek] 98) = W2 at KE d5 f1 f2 d7 ⊢
          refine (C1.out _ KE).mono ?_
          rintro e w5 ⟨rfl, K5⟩
          replace d5 := K5.cell d5
          replace f1 := K5.cell f1
          replace f2 := K5.cell f2
          replace d7 := K5.cell d7
          have KN := hid_of (KE.trans K5)
          clear KE K5 C1 d1 d2 d3 d4
          by_cases hr0 : r = 0
          · have P := hid_of (HIT.out ⟨.inl (by omega), .inl (by omega)⟩)
            subst hr0
            clear HIT MISS
            go_wp2_with (go_at_call 53; refine (must_ok _).mono ?_; rintro e w' ⟨rfl, rfl⟩)
            refine Ord.region [(0, 0), (1, 0), (2, 0), (3, 0), (4, 1), (5, 0), (6, 0), (7, 1), (8, 0), (9, 1), (10, 0), (11, 0), (12, 2)] (fun w' => Kept w5 w') (by kernel_rfl) (by kernel_rfl) (by kernel_rfl) (by kernel_rfl) (fun _ _ d _ _ h => by cases d <;> exact h) ((Kept.refl _).drewN _) ?_
            repeat
              refine Ord.step rfl (fun Ko hK => ?_)
              simp only [Ord.body]
              go_simp
              first
                | (refine hK _ _ ?_; clear hK Ko)
                | (refine ⟨_, fun w' hS => (by have c0 := hS.cell f1; have c1 := hS.cell d5; have c2 := hS.cell d7; simp only [c0, c1, c2, Result.andThen]; rfl), hK _ _ ?_⟩; clear hK Ko)
                | (go_at_call 53; refine (must_ok _).mono ?_; rintro e w' ⟨rfl, rfl⟩; refine ⟨(Kept.refl _).drewN _, hK _ _ ?_⟩; clear hK Ko)
            refine Ord.done ?_
            go_wp2
            go_roundw
            case rel => exact ⟨k + 1, by omega, by go_num, KN.out.drewN _, P.out⟩
            case measure => simp [intOf]; omega
          by_cases hr1 : r < 0
          · have t1 : r ≤ 0 := by omega
            have t2 : ¬ 0 ≤ r := by omega
            have qr : decide (0 ≤ r) = false := decide_eq_false t2
            by_cases hx : x = ec
            · have P := hid_of (HIT.out ⟨.inl t1, .inr hx⟩)
              subst hx
              clear HIT MISS
              go_wp2_with (go_at_call 53; refine (must_ok _).mono ?_; rintro e w' ⟨rfl, rfl⟩)
              refine Ord.region [(0, 0), (1, 0), (2, 0), (3, 0), (4, 1), (5, 0), (6, 0), (7, 1), (8, 0), (9, 1), (10, 0), (11, 0), (12, 2)] (fun w' => Kept w5 w') (by kernel_rfl) (by kernel_rfl) (by kernel_rfl) (by kernel_rfl) (fun _ _ d _ _ h => by cases d <;> exact h) ((Kept.refl _).drewN _) ?_
              repeat
                refine Ord.step rfl (fun Ko hK => ?_)
                simp only [Ord.body]
                go_simp
                first
                  | (refine hK _ _ ?_; clear hK Ko)
                  | (refine ⟨_, fun w' hS => (by have c0 := hS.cell f1; have c1 := hS.cell d5; have c2 := hS.cell d7; simp only [c0, c1, c2, Result.andThen]; rfl), hK _ _ ?_⟩; clear hK Ko)
                  | (go_at_call 53; refine (must_ok _).mono ?_; rintro e w' ⟨rfl, rfl⟩; refine ⟨(Kept.refl _).drewN _, hK _ _ ?_⟩; clear hK Ko)
              refine Ord.done ?_
              go_wp2
              go_roundw
              case rel => exact ⟨k + 1, by omega, by go_num, KN.out.drewN _, P.out⟩
              case measure => simp [intOf]; omega
            · have P := hid_of (MISS.out (fun t => hx (t.2.resolve_left t2)))
              have qx : (x == ec) = false := by simpa using hx
              clear HIT MISS
              go_wp2_with (go_at_call 53; refine (must_ok _).mono ?_; rintro e w' ⟨rfl, rfl⟩)
              refine Ord.region [(0, 0), (1, 0), (2, 0), (3, 0), (4, 1), (5, 0), (6, 0), (7, 1), (8, 0), (9, 1), (10, 0), (11, 0), (12, 2)] (fun w' => Kept w5 w') (by kernel_rfl) (by kernel_rfl) (by kernel_rfl) (by kernel_rfl) (fun _ _ d _ _ h => by cases d <;> exact h) ((Kept.refl _).drewN _) ?_
              repeat
                refine Ord.step rfl (fun Ko hK => ?_)
                simp only [Ord.body]
                go_simp
                first
                  | (refine hK _ _ ?_; clear hK Ko)
                  | (refine ⟨_, fun w' hS => (by have c0 := hS.cell f1; have c1 := hS.cell d5; have c2 := hS.cell d7; simp only [c0, c1, c2, Result.andThen]; rfl), hK _ _ ?_⟩; clear hK Ko)
                  | (go_at_call 53; refine (must_no _).mono ?_; rintro e w' ⟨rfl, rfl⟩)
              go_simp
              exact ⟨rfl, .inr ⟨P.out, rfl, HK4.out.trans (KN.out.drewN _)⟩⟩
          · have t1 : ¬ r ≤ 0 := by omega
            have t2 : 0 ≤ r := by omega
            by_cases hx : x = 0
            · have P := hid_of (HIT.out ⟨.inr hx, .inl t2⟩)
              have qx : (x == 0) = true := by simpa using hx
              clear HIT MISS hx
              go_wp2_with (go_at_call 53; refine (must_ok _).mono ?_; rintro e w' ⟨rfl, rfl⟩)
              refine Ord.region [(0, 0), (1, 0), (2, 0), (3, 0), (4, 1), (5, 0), (6, 0), (7, 1), (8, 0), (9, 1), (10, 0), (11, 0), (12, 2)] (fun w' => Kept w5 w') (by kernel_rfl) (by kernel_rfl) (by kernel_rfl) (by kernel_rfl) (fun _ _ d _ _ h => by cases d <;> exact h) ((Kept.refl _).drewN _) ?_
              repeat
                refine Ord.step rfl (fun Ko hK => ?_)
                simp only [Ord.body]
                go_simp
                first
                  | (refine hK _ _ ?_; clear hK Ko)
                  | (refine ⟨_, fun w' hS => (by have c0 := hS.cell f1; have c1 := hS.cell d5; have c2 := hS.cell d7; simp only [c0, c1, c2, Result.andThen]; rfl), hK _ _ ?_⟩; clear hK Ko)
                  | (go_at_call 53; refine (must_ok _).mono ?_; rintro e w' ⟨rfl, rfl⟩; refine ⟨(Kept.refl _).drewN _, hK _ _ ?_⟩; clear hK Ko)
              refine Ord.done ?_
              go_wp2
              go_roundw
              case rel => exact ⟨k + 1, by omega, by go_num, KN.out.drewN _, P.out⟩
              case measure => simp [intOf]; omega
            · have P := hid_of (MISS.out (fun t => hx (t.1.resolve_left t1)))
              have qx : (x == 0) = false := by simpa using hx
              clear HIT MISS hx
              go_wp2_with (go_at_call 53; rw [show decide (r ≤ 0) = false from decide_eq_false (by omega)]; refine (must_no _).mono ?_; rintro e w' ⟨rfl, rfl⟩)
              exact ⟨rfl, .inr ⟨P.out, rfl, HK4.out.trans KN.out⟩⟩
        · obtain rfl : k = m := by omega
          have P : Hid (PlanOk es v k sup on k pot v) := ⟨FIT.out, POK.out, SUP.out, HNO.out⟩
          have hv4 := (HK4.out.trans K).cell hv
          have CC := hid_of (costOf_calls (v : Int) ao v k cap es bo bc on wr (HE.out.kept (HK4.out.trans K)) (HJ.out.kept (HK4.out.trans K)) RGH.out SM.out)
          replace g0 := K.cell g0
          replace g1 := K.cell g1
          have HK5 := hid_of (HK4.out.trans K)
          clear CR HNO K f2
          go_wp2_with fail
          refine CC.out.mono ?_
          rintro e w6 ⟨rfl, K6⟩
          replace hv4 := K6.cell hv4
          have HK6 := hid_of (HK5.out.trans K6)
          have hvf5 := (Below.frozen (p := ⟨vb, 0, none⟩) HK6.out (lt_cell hv)).trans hvf
          clear HK5 K6 CC g0 g1 f1
          go_wp2
          exact bodyPost_end (v := .tuple #[]) (by simp [results, Try.results57]) rfl (.inl ⟨P.out, rfl, _, HK6.out, rfl⟩)
end Go.Proofs.Ytomopfjaebcpeaa

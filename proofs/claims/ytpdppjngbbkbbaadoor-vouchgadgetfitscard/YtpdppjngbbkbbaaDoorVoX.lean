/- The look of Heaviest; Heaviest; Matching. -/
import Derived.Test.YtpdppjngbbkbbaaDoorVoW
namespace Go.Proofs.YtpdppjngbbkbbaaDoor
open Go.RowKit

/-- An edge that is no dearer than the potentials of its ends. -/
def HvyE (es : List Ed) (p : List Int) (i : Nat) : Prop := lp es i = true ∨ (edAt es i).k ≤ zAt p (edAt es i).f.toNat + zAt p (edAt es i).t.toNat
/-- A matching with potentials that prove it heaviest. -/
def HvyOk (es : List Ed) (N n : Nat) (m : List Int) (lm : Nat) (p : List Int) (mp : Nat) : Prop :=
  MatchOk es n m lm ∧ PotsOk p mp N ∧ (∀ v, v < N → 0 ≤ zAt p v) ∧ (∀ i, i < n → HvyE es p i) ∧ sm (zAt p) N = csum es m lm

set_option maxRecDepth 100000 in
set_option linter.unusedSimpArgs false in
set_option maxHeartbeats 4000000 in
theorem heavyLook_calls (mb gb xb rb : Nat) (mo : Option Addr) (lm mc : Nat) (m : List Int) (xo : Option Addr) (lx xc : Nat) (x : List Int) (N : Nat) (ao : Option Addr) (n cap : Nat) (es : List Ed) (w : World) (hm : w.cell? ⟨mb, 0, none⟩ = some (.slice mo lm mc)) (hG : GBox w gb (N : Int) ao n cap) (hx : w.cell? ⟨xb, 0, none⟩ = some (.slice xo lx xc)) (r0 : w.cell? ⟨rb, 0, none⟩ = some (.int .i64 0)) (rf : w.frozen? ⟨rb, 0, none⟩ = false) (h : ERow w ao n cap es) (hJ : JRow w mo lm mc m) (hX : JRow w xo lx xc x) (RG : Right N n es) :
    Calls Tryd.prog 56 #[.pointer (some ⟨mb, 0, none⟩), .pointer (some ⟨gb, 0, none⟩), .pointer (some ⟨xb, 0, none⟩), .pointer (some ⟨rb, 0, none⟩)] w fun e w' =>
      (HvyOk es N n m lm x lx ∧ e = .returned (.tuple #[]) ∧ ∃ wx, Kept w wx ∧ w' = wx.setCell ⟨rb, 0, none⟩ (.int .i64 (csum es m lm))) ∨ (¬ HvyOk es N n m lm x lx ∧ e = .panicked [{ v := .iface 140 (.agg #[.int .i64 221]), recovered := false }] ∧ Kept w w') := by
  obtain ⟨g0, g1⟩ := hG
  have hN := RG.nodes
  have hn := RG.edges
  have hr2 := hJ.room
  have hm2 := hJ.most
  have hr3 := hX.room
  have hm3 := hX.most
  unfold maxLen at hm2 hm3
  have HE := hid_of h
  have HJ := hid_of hJ
  have HX := hid_of hX
  have RGH := hid_of RG
  have HR0 := hid_of r0
  have HRF := hid_of rf
  clear h hJ hX RG r0 rf
  go_enter Tryd.func56, Tryd.ntmps56
  go_wp2_with fail
  refine (mustMatch_calls mo lm mc m N ao n cap es w HJ.out HE.out RGH.out).mono ?_
  rintro e wa ⟨K1, ⟨ok, rfl⟩ | ⟨ok, rfl⟩⟩
  rotate_left
  · have HK := hid_of K1
    clear hm g0 g1 hx K1
    go_wp2
    exact ⟨rfl, .inr ⟨fun t => ok t.1, rfl, HK.out⟩⟩
  replace hm := K1.cell hm
  replace g0 := K1.cell g0
  replace g1 := K1.cell g1
  replace hx := K1.cell hx
  have HK := hid_of K1
  have MOK := hid_of ok
  clear K1 ok
  go_wp2_with fail
  refine (mustPot_calls N xo lx xc x wa (HX.out.kept HK.out)).mono ?_
  rintro e wb ⟨K2, ⟨pok, rfl⟩ | ⟨pok, rfl⟩⟩
  rotate_left
  · have HK2 := hid_of (HK.out.trans K2)
    clear hm g0 g1 hx K2
    go_wp2
    exact ⟨rfl, .inr ⟨fun t => pok t.2.1, rfl, HK2.out⟩⟩
  replace hm := K2.cell hm
  replace g0 := K2.cell g0
  replace g1 := K2.cell g1
  replace hx := K2.cell hx
  have HK2 := hid_of (HK.out.trans K2)
  have POK := hid_of pok
  obtain rfl : lx = N := pok.1
  have HG0 := hid_of g0
  have HG1 := hid_of g1
  have HMB := hid_of hm
  have HXB := hid_of hx
  clear K2 HK pok g0 g1
  go_wp2_with fail
  go_loopw [5, 18] (fun _ i wr => ∃ (k : Nat), k ≤ lx ∧ i = .int .i64 k ∧ wb = wr ∧ ∀ j, j < k → 0 ≤ zAt x j) (fun _ i _ => lx - (intOf i).toNat)
  case atStart => exact ⟨0, by omega, rfl, rfl, fun i hi => by omega⟩
  case round =>
    obtain ⟨k, hk, rfl, rfl, hno⟩ := hrel
    have HNO := hid_of hno
    clear hno hm hx
    by_cases hgo : (k : Int) < (lx : Int)
    · obtain ⟨b2, o2, rfl, hc2⟩ := (HX.out.kept HK2.out).at (by omega)
      have d5 := hc2 k (by omega)
      have HIT : Hid (0 ≤ zAt x k → ∀ j, j < k + 1 → 0 ≤ zAt x j) := fun hb i hi => by
        by_cases e : i = k
        · subst e; exact hb
        · exact HNO.out i (by omega)
      have MISS : Hid (¬ 0 ≤ zAt x k → ¬ HvyOk es lx n m lm x lx) := fun hb t => hb (t.2.2.1 k (by omega))
      generalize zAt x k = y at d5 HIT MISS
      clear hc2
      by_cases hy : 0 ≤ y
      · have P := hid_of (HIT.out hy)
        have q : decide (0 ≤ y) = true := decide_eq_true hy
        clear HIT MISS
        go_wp2_with (go_at_call 51; refine (must_ok _).mono ?_; rintro e w' ⟨rfl, rfl⟩)
        go_roundw
        case rel => exact ⟨k + 1, by omega, by go_num, by trivial, P.out⟩
        case measure => simp [intOf]; omega
      · have P := hid_of (MISS.out hy)
        have q : decide (0 ≤ y) = false := decide_eq_false hy
        clear HIT MISS
        go_wp2_with (go_at_call 51; refine (must_no _).mono ?_; rintro e w' ⟨rfl, rfl⟩)
        exact ⟨rfl, .inr ⟨P.out, rfl, HK2.out⟩⟩
    · obtain rfl : k = lx := by omega
      have g1 := HG1.out
      have hx := HXB.out
      have PPOS := HNO
      clear HNO
      go_wp2_with fail
      go_loopw [7, 29] (fun _ i wr => ∃ (j : Nat), j ≤ n ∧ i = .int .i64 j ∧ Kept wb wr ∧ ∀ q, q < j → HvyE es x q) (fun _ i _ => n - (intOf i).toNat)
      case atStart => exact ⟨0, by omega, rfl, Kept.refl _, fun i hi => by omega⟩
      case round =>
        obtain ⟨j, hj, rfl, K, hno⟩ := hrel
        have HNO := hid_of hno
        have KH := hid_of K
        have hx := K.cell HXB.out
        clear hno g1
        by_cases hgo2 : (j : Int) < (n : Int)
        · obtain ⟨b, off, rfl, hc⟩ := (HE.out.kept (HK2.out.trans K)).cell (by omega)
          obtain ⟨d1, d2, d3, d4⟩ := hc j (by omega)
          obtain ⟨e1, e2, e3, e4⟩ := RGH.out.ends j (by omega)
          obtain ⟨b2, o2, rfl, hc2⟩ := (HX.out.kept (HK2.out.trans K)).at (by omega)
          have p1 := hc2 (edAt es j).f.toNat (by omega)
          have p2 := hc2 (edAt es j).t.toNat (by omega)
          obtain ⟨m1, m2⟩ := POK.out.2 (edAt es j).f.toNat (by omega)
          obtain ⟨m3, m4⟩ := POK.out.2 (edAt es j).t.toNat (by omega)
          have HIT : Hid (HvyE es x j → ∀ q, q < j + 1 → HvyE es x q) := fun hb i hi => by
            by_cases e : i = j
            · subst e; exact hb
            · exact HNO.out i (by omega)
          have MISS : Hid (¬ HvyE es x j → ¬ HvyOk es k n m lm x k) := fun hb t => hb (t.2.2.2.1 j (by omega))
          unfold HvyE lp at HIT MISS
          generalize edAt es j = e at d1 d2 d3 d4 e1 e2 e3 e4 p1 p2 m1 m2 m3 m4 HIT MISS
          have CL := hid_of (isLoop_calls e)
          obtain ⟨ef, et, ec, ek⟩ := e
          simp only at d1 d2 d3 d4 e1 e2 e3 e4 p1 p2 m1 m2 m3 m4 HIT MISS
          obtain ⟨f, rfl⟩ : ∃ f : Nat, ef = (f : Int) := ⟨ef.toNat, by omega⟩
          obtain ⟨t, rfl⟩ : ∃ t : Nat, et = (t : Int) := ⟨et.toNat, by omega⟩
          simp only [Int.toNat_natCast] at p1 p2 m1 m2 m3 m4 HIT MISS
          have hfr : (f : Int) < (k : Int) := by omega
          have htr : (t : Int) < (k : Int) := by omega
          generalize zAt x f = xf at p1 m1 m2 HIT MISS
          generalize zAt x t = xt at p2 m3 m4 HIT MISS
          obtain ⟨s, hs⟩ : ∃ s, xf + xt = s := ⟨_, rfl⟩
          have WR : IntKind.i64.wrap (xf + xt) = s := by rw [wrap_id (by omega) (by omega)]; exact hs
          rw [hs] at HIT MISS
          clear hc hc2 K m1 m2 m3 m4 hs
          go_upto_region 10 with fail
          generalize hW : wr.alloc (Obj.cells #[.int .i64 (f : Int), .int .i64 (t : Int), .int .i64 ec, .int .i64 ek] 86) = W3
          obtain ⟨EK, a0, a1, a2, a3, -⟩ := edge_box hW
          replace p1 := EK.cell p1
          replace p2 := EK.cell p2
          replace hx := EK.cell hx
          have K3 := hid_of (KH.out.trans EK)
          clear d1 d2 d3 d4 EK KH hW
          by_cases hft : f = t
          · subst hft
            have hq : ((f : Int) == (f : Int)) = true := by rw [beq_iff_eq]
            have P := hid_of (HIT.out (.inl hq))
            clear HIT MISS
            refine Ord.region [(0, 1), (1, 2), (2, 0), (3, 1), (4, 0), (5, 1), (6, 0), (7, 1), (8, 1), (9, 0), (10, 1), (11, 0), (12, 1), (13, 0), (14, 0), (15, 1), (16, 0), (17, 0), (18, 2)] (fun w' => Kept W3 w') (by kernel_rfl) (by kernel_rfl) (by kernel_rfl) (by kernel_rfl) (fun _ _ d _ _ h => by cases d <;> exact h) ((Kept.refl _).drewN _) ?_
            repeat
              refine Ord.step rfl (fun Ko hK => ?_)
              simp only [Ord.body]
              go_simp
              first
                | (refine hK _ _ ?_; clear hK Ko)
                | (refine ⟨_, fun w' hS => (by have c0 := hS.cell a0; have c1 := hS.cell a1; have c2 := hS.cell a2; have c3 := hS.cell a3; have c4 := hS.cell p1; have c5 := hS.cell p2; have c6 := hS.cell hx; simp only [c0, c1, c2, c3, c4, c5, c6, Result.andThen]; rfl), hK _ _ ?_⟩; clear hK Ko)
                | (go_at_call 53; refine (CL.out _).mono ?_; rintro e w5 ⟨rfl, K5⟩; refine ⟨((Kept.refl _).drewN _).trans K5, hK _ _ ?_⟩; clear hK Ko)
                | (go_at_call 51; refine (must_ok _).mono ?_; rintro e w6 ⟨rfl, rfl⟩; refine ⟨((Kept.refl _).drewN _).trans K5, hK _ _ ?_⟩; clear hK Ko)
            refine Ord.done ?_
            have KN := hid_of (K3.out.trans (((Kept.refl _).drewN _).trans K5))
            clear a0 a1 a2 a3 p1 p2 hx K5
            go_wp2
            go_roundw
            case rel => exact ⟨j + 1, by omega, by go_num, KN.out, P.out⟩
            case measure => simp [intOf]; omega
          have hq : ((f : Int) == (t : Int)) = false := by rw [beq_eq_false_iff_ne]; omega
          by_cases hle : ek ≤ s
          · have qd : decide (ek ≤ s) = true := decide_eq_true hle
            have P := hid_of (HIT.out (.inr hle))
            clear HIT MISS
            refine Ord.region [(0, 1), (1, 2), (2, 0), (3, 1), (4, 0), (5, 1), (6, 0), (7, 1), (8, 1), (9, 0), (10, 1), (11, 0), (12, 1), (13, 0), (14, 0), (15, 1), (16, 0), (17, 0), (18, 2)] (fun w' => Kept W3 w') (by kernel_rfl) (by kernel_rfl) (by kernel_rfl) (by kernel_rfl) (fun _ _ d _ _ h => by cases d <;> exact h) ((Kept.refl _).drewN _) ?_
            repeat
              refine Ord.step rfl (fun Ko hK => ?_)
              simp only [Ord.body]
              go_simp
              first
                | (refine hK _ _ ?_; clear hK Ko)
                | (refine ⟨_, fun w' hS => (by have c0 := hS.cell a0; have c1 := hS.cell a1; have c2 := hS.cell a2; have c3 := hS.cell a3; have c4 := hS.cell p1; have c5 := hS.cell p2; have c6 := hS.cell hx; simp only [c0, c1, c2, c3, c4, c5, c6, Result.andThen]; rfl), hK _ _ ?_⟩; clear hK Ko)
                | (go_at_call 53; refine (CL.out _).mono ?_; rintro e w5 ⟨rfl, K5⟩; refine ⟨((Kept.refl _).drewN _).trans K5, hK _ _ ?_⟩; clear hK Ko)
                | (go_at_call 51; refine (must_ok _).mono ?_; rintro e w6 ⟨rfl, rfl⟩; refine ⟨((Kept.refl _).drewN _).trans K5, hK _ _ ?_⟩; clear hK Ko)
                | ((rw [WR]))
            refine Ord.done ?_
            have KN := hid_of (K3.out.trans (((Kept.refl _).drewN _).trans K5))
            clear a0 a1 a2 a3 p1 p2 hx K5
            go_wp2
            go_roundw
            case rel => exact ⟨j + 1, by omega, by go_num, KN.out, P.out⟩
            case measure => simp [intOf]; omega
          · have qd : decide (ek ≤ s) = false := decide_eq_false hle
            have P := hid_of (MISS.out (fun u => by
              rcases u with u | u
              · rw [hq] at u; cases u
              · exact hle u))
            clear HIT MISS
            refine Ord.region [(0, 1), (1, 2), (2, 0), (3, 1), (4, 0), (5, 1), (6, 0), (7, 1), (8, 1), (9, 0), (10, 1), (11, 0), (12, 1), (13, 0), (14, 0), (15, 1), (16, 0), (17, 0), (18, 2)] (fun w' => Kept W3 w') (by kernel_rfl) (by kernel_rfl) (by kernel_rfl) (by kernel_rfl) (fun _ _ d _ _ h => by cases d <;> exact h) ((Kept.refl _).drewN _) ?_
            repeat
              refine Ord.step rfl (fun Ko hK => ?_)
              simp only [Ord.body]
              go_simp
              first
                | (refine hK _ _ ?_; clear hK Ko)
                | (refine ⟨_, fun w' hS => (by have c0 := hS.cell a0; have c1 := hS.cell a1; have c2 := hS.cell a2; have c3 := hS.cell a3; have c4 := hS.cell p1; have c5 := hS.cell p2; have c6 := hS.cell hx; simp only [c0, c1, c2, c3, c4, c5, c6, Result.andThen]; rfl), hK _ _ ?_⟩; clear hK Ko)
                | (go_at_call 53; refine (CL.out _).mono ?_; rintro e w5 ⟨rfl, K5⟩; refine ⟨((Kept.refl _).drewN _).trans K5, hK _ _ ?_⟩; clear hK Ko)
                | (go_at_call 51; refine (must_no _).mono ?_; rintro e w6 ⟨rfl, rfl⟩)
                | ((rw [WR]))
            go_simp
            exact ⟨rfl, .inr ⟨P.out, rfl, HK2.out.trans (K3.out.trans (((Kept.refl _).drewN _).trans K5))⟩⟩
        · obtain rfl : j = n := by omega
          have g0 := K.cell HG0.out
          have g1 := K.cell HG1.out
          have hm := K.cell HMB.out
          have KF := hid_of (HK2.out.trans K)
          have lmb : lm ≤ 4096 := by
            have := MOK.out.1.len_le
            omega
          have CC := hid_of (costOf_calls mo lm mc m (k : Int) k ao j cap es wr (HE.out.kept KF.out) (HJ.out.kept KF.out) RGH.out (fun i hi => MOK.out.1.rng hi) lmb)
          clear K KH
          go_wp2_with fail
          refine CC.out.mono ?_
          rintro e w6 ⟨rfl, K6⟩
          replace hx := K6.cell hx
          have KF6 := hid_of (KF.out.trans K6)
          have SC := hid_of (sumOf_calls xo k xc x w6 (HX.out.kept KF6.out) hN POK.out.2)
          clear K6 KF CC g0 g1 hm
          go_wp2_with fail
          refine SC.out.mono ?_
          rintro e w7 ⟨rfl, rfl⟩
          have r1 := KF6.out.cell HR0.out
          have rf1 := (Below.frozen (p := ⟨rb, 0, none⟩) KF6.out (lt_cell HR0.out)).trans HRF.out
          obtain ⟨A, hA⟩ : ∃ A, sm (zAt x) k = A := ⟨_, rfl⟩
          obtain ⟨B, hB⟩ : ∃ B, csum es m lm = B := ⟨_, rfl⟩
          rw [hA, hB]
          have HA := hid_of hA
          have HBB := hid_of hB
          clear hA hB SC hx
          by_cases he : A = B
          · have q : (A == B) = true := by rw [beq_iff_eq]; exact he
            have P : Hid (HvyOk es k j m lm x k) := ⟨MOK.out, POK.out, PPOS.out, HNO.out, by rw [HA.out, HBB.out]; exact he⟩
            go_wp2_with (go_at_call 51; refine (must_ok _).mono ?_; rintro e w' ⟨rfl, rfl⟩)
            exact bodyPost_end (v := .tuple #[]) (by simp [results, Tryd.results56]) rfl (.inl ⟨P.out, rfl, w6, KF6.out, by rw [HBB.out]⟩)
          · have q : (A == B) = false := by rw [beq_eq_false_iff_ne]; exact he
            have P : Hid (¬ HvyOk es k j m lm x k) := fun t => he (by rw [← HA.out, ← HBB.out]; exact t.2.2.2.2)
            go_wp2_with (go_at_call 51; refine (must_no _).mono ?_; rintro e w' ⟨rfl, rfl⟩)
            exact ⟨rfl, .inr ⟨P.out, rfl, KF6.out⟩⟩

open Classical in
/-- What Heaviest answers. -/
noncomputable def hvyAns (nodes : Int) (es : List Ed) (n : Nat) (m : List Int) (lm : Nat) (x : List Int) (lx : Nat) : Int × Int :=
  if (faultOf nodes es).1 ≠ 0 then (0, (faultOf nodes es).1) else if HvyOk es nodes.toNat n m lm x lx then (csum es m lm, 0) else (0, 221)

theorem heavy_calls (nodes : Int) (ao : Option Addr) (n cap : Nat) (es : List Ed) (mo : Option Addr) (lm mc : Nat) (m : List Int) (xo : Option Addr) (lx xc : Nat) (x : List Int) (w : World) (h : ERow w ao n cap es) (hJ : JRow w mo lm mc m) (hX : JRow w xo lx xc x) (v code : Int) (hans : Hid (hvyAns nodes es n m lm x lx = (v, code))) :
    Calls Tryd.prog 19 #[.agg #[.int .i64 nodes, .slice ao n cap], .slice mo lm mc, .slice xo lx xc] w fun e w' => e = .returned (.tuple #[.int .i64 v, .int .i64 code]) ∧ Kept w w' := by
  have ha := hans.out
  unfold hvyAns at ha
  refine heavy_wrap nodes ao n cap es mo lm mc xo lx xc w h v code (fun hc w1 K G a1 a2 r0 rf => ?_) (fun hne => ?_) (fun hc => ?_)
  · rw [if_neg (by simp [hc])] at ha
    obtain ⟨N, rfl, RG⟩ := right_of (fault_zero hc)
    rw [← h.len] at RG
    rw [Int.toNat_natCast] at ha
    refine (heavyLook_calls (w.heap.size + 1) w.heap.size (w.heap.size + 2) (w.heap.size + 3) mo lm mc m xo lx xc x N ao n cap es w1 a1 G a2 r0 rf (h.kept K) (hJ.kept K) (hX.kept K) RG).mono fun e w2 hp => ?_
    rcases hp with ⟨ok, h1, wx, Kx, h2⟩ | ⟨ok, h1, h2⟩
    · rw [if_pos ok] at ha
      obtain ⟨rfl, rfl⟩ := Prod.mk.inj ha
      exact .inl ⟨rfl, h1, wx, Kx, h2⟩
    · rw [if_neg ok] at ha
      obtain ⟨rfl, rfl⟩ := Prod.mk.inj ha
      exact .inr ⟨by decide, rfl, h1, h2⟩
  · split at ha
    · exact (Prod.mk.inj ha).1.symm
    · split at ha
      · exact absurd (Prod.mk.inj ha).2.symm hne
      · exact (Prod.mk.inj ha).1.symm
  · rw [if_pos hc] at ha
    obtain ⟨rfl, rfl⟩ := Prod.mk.inj ha
    exact ⟨rfl, rfl⟩
end Go.Proofs.YtpdppjngbbkbbaaDoor

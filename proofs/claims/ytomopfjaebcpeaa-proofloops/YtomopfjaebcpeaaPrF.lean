/- The look of Max. -/
import Derived.Test.YtomopfjaebcpeaaPrE
namespace Go.Proofs.Ytomopfjaebcpeaa
open Go.RowKit

theorem isNodeP_yes (v nodes : Int) (h : 0 ≤ v ∧ v < nodes) (s : Value) (w : World) : Calls Try.prog 51 #[.int .i64 v, .agg #[.int .i64 nodes, s]] w fun e w' => e = .returned (.bool true) ∧ Kept w w' := by
  have := isNodeP_calls v nodes s w
  rw [decide_eq_true h.1, decide_eq_true h.2] at this
  exact this
theorem isNodeP_no (v nodes : Int) (h : ¬ (0 ≤ v ∧ v < nodes)) (s : Value) (w : World) : Calls Try.prog 51 #[.int .i64 v, .agg #[.int .i64 nodes, s]] w fun e w' => e = .returned (.bool false) ∧ Kept w w' := by
  have := isNodeP_calls v nodes s w
  have e : (decide (0 ≤ v) && decide (v < nodes)) = false := by
    rw [Bool.and_eq_false_iff, decide_eq_false_iff_not, decide_eq_false_iff_not]; omega
  rw [e] at this
  exact this

/-- What a flow must be to be proved greatest. -/
def MaxOk (es : List Ed) (N n : Nat) (on : List Int) (m : Nat) (bs : List Bool) (k : Nat) (s t : Nat) : Prop :=
  FitsOn es on m n ∧ k = N ∧ (∀ v : Nat, v < N → outTo es (zAt on) (v : Int) n = 0 ∨ v = s ∨ v = t) ∧ (bAt bs s = true ∧ bAt bs t = false) ∧ outTo es (zAt on) (s : Int) n = cutTo es (bAt bs) n

/-- A graph's box. -/
structure GBox (w : World) (gb : Nat) (nodes : Int) (ao : Option Addr) (n cap : Nat) : Prop where
  g0 : w.cell? ⟨gb, 0, none⟩ = some (.int .i64 nodes)
  g1 : w.cell? ⟨gb, 1, none⟩ = some (.slice ao n cap)
theorem GBox.kept {w w' : World} {gb : Nat} {nodes : Int} {ao : Option Addr} {n cap : Nat} (h : GBox w gb nodes ao n cap) (K : Kept w w') : GBox w' gb nodes ao n cap := ⟨K.cell h.g0, K.cell h.g1⟩
/-- A box of four. -/
structure Box4 (w : World) (fb : Nat) (a b c d : Value) : Prop where
  f0 : w.cell? ⟨fb, 0, none⟩ = some a
  f1 : w.cell? ⟨fb, 1, none⟩ = some b
  f2 : w.cell? ⟨fb, 2, none⟩ = some c
  f3 : w.cell? ⟨fb, 3, none⟩ = some d
theorem Box4.kept {w w' : World} {fb : Nat} {a b c d : Value} (h : Box4 w fb a b c d) (K : Kept w w') : Box4 w' fb a b c d := ⟨K.cell h.f0, K.cell h.f1, K.cell h.f2, K.cell h.f3⟩

set_option maxRecDepth 100000 in
set_option linter.unusedSimpArgs false in
set_option maxHeartbeats 1000000 in
theorem maxLook_node (fb gb vb : Nat) (s t : Int) (on side : Value) (nodes : Int) (ao : Option Addr) (n cap : Nat) (w : World) (hF : Box4 w fb (.int .i64 s) (.int .i64 t) on side) (hG : GBox w gb nodes ao n cap) (hb : ¬ (0 ≤ s ∧ s < nodes) ∨ ¬ (0 ≤ t ∧ t < nodes)) :
    Calls Try.prog 49 #[.pointer (some ⟨fb, 0, none⟩), .pointer (some ⟨gb, 0, none⟩), .pointer (some ⟨vb, 0, none⟩)] w fun e w' => e = .panicked [{ v := .iface 136 (.agg #[.int .i64 30]), recovered := false }] ∧ Kept w w' := by
  obtain ⟨f0, f1, f2, f3⟩ := hF
  obtain ⟨g0, g1⟩ := hG
  by_cases hs : 0 ≤ s ∧ s < nodes
  · have ht := hb.resolve_left (fun h => h hs)
    clear hb
    go_enter Try.func49, Try.ntmps49
    go_wp2_with fail
    refine (isNodeP_yes s nodes hs _ _).mono ?_
    rintro e wa ⟨rfl, K1⟩
    have f1' := K1.cell f1
    have g0' := K1.cell g0
    have g1' := K1.cell g1
    have HK := hid_of K1
    clear f0 f1 f2 f3 g0 g1 K1 hs
    go_wp2_with fail
    refine (isNodeP_no t nodes ht _ _).mono ?_
    rintro e wb ⟨rfl, K2⟩
    have HK2 := hid_of (HK.out.trans K2)
    clear f1' g0' g1' K2 HK ht
    go_wp2_with fail
    refine (demand_no 30 _).mono ?_
    rintro e wc ⟨rfl, rfl⟩
    go_wp2
    exact ⟨rfl, rfl, HK2.out⟩
  · clear hb
    go_enter Try.func49, Try.ntmps49
    go_wp2_with fail
    refine (isNodeP_no s nodes hs _ _).mono ?_
    rintro e wa ⟨rfl, K1⟩
    have HK := hid_of K1
    clear f0 f1 f2 f3 g0 g1 K1 hs
    go_wp2_with fail
    refine (demand_no 30 _).mono ?_
    rintro e wc ⟨rfl, rfl⟩
    go_wp2
    exact ⟨rfl, rfl, HK.out⟩

set_option maxRecDepth 100000 in
set_option linter.unusedSimpArgs false in
set_option maxHeartbeats 1000000 in
theorem maxLook_same (fb gb vb : Nat) (s : Int) (on side : Value) (nodes : Int) (ao : Option Addr) (n cap : Nat) (w : World) (hF : Box4 w fb (.int .i64 s) (.int .i64 s) on side) (hG : GBox w gb nodes ao n cap) (hs : 0 ≤ s ∧ s < nodes) :
    Calls Try.prog 49 #[.pointer (some ⟨fb, 0, none⟩), .pointer (some ⟨gb, 0, none⟩), .pointer (some ⟨vb, 0, none⟩)] w fun e w' => e = .panicked [{ v := .iface 136 (.agg #[.int .i64 120]), recovered := false }] ∧ Kept w w' := by
  obtain ⟨f0, f1, f2, f3⟩ := hF
  obtain ⟨g0, g1⟩ := hG
  have C := hid_of (isNodeP_yes s nodes hs)
  clear hs
  go_enter Try.func49, Try.ntmps49
  go_wp2_with fail
  refine (C.out _ _).mono ?_
  rintro e wa ⟨rfl, K1⟩
  replace f0 := K1.cell f0
  replace f1 := K1.cell f1
  replace g0 := K1.cell g0
  replace g1 := K1.cell g1
  have HK := hid_of K1
  clear f2 f3 K1
  go_wp2_with fail
  refine (C.out _ _).mono ?_
  rintro e wb ⟨rfl, K2⟩
  replace f0 := K2.cell f0
  replace f1 := K2.cell f1
  have HK2 := hid_of (HK.out.trans K2)
  clear g0 g1 K2 HK C
  go_wp2_with fail
  refine (demand_ok 30 _).mono ?_
  rintro e wc ⟨rfl, rfl⟩
  have q : (s != s) = false := by simp
  go_wp2_with fail
  refine (demand_no 120 _).mono ?_
  rintro e wc ⟨rfl, rfl⟩
  go_wp2
  exact ⟨rfl, rfl, HK2.out⟩

set_option maxRecDepth 100000 in
set_option linter.unusedSimpArgs false in
set_option maxHeartbeats 4000000 in
theorem maxLook_calls (fb gb vb : Nat) (s t : Nat) (bo : Option Addr) (m bc : Nat) (on : List Int) (so : Option Addr) (k sc : Nat) (bs : List Bool) (N : Nat) (ao : Option Addr) (n cap : Nat) (es : List Ed) (w : World) (hF : Box4 w fb (.int .i64 (s : Int)) (.int .i64 (t : Int)) (.slice bo m bc) (.slice so k sc)) (hG : GBox w gb (N : Int) ao n cap)
    (x0 : Value) (hv : w.cell? ⟨vb, 0, none⟩ = some x0) (hvf : w.frozen? ⟨vb, 0, none⟩ = false) (h : ERow w ao n cap es) (hJ : JRow w bo m bc on) (hB : BRow w so k sc bs) (RG : Right N n es) (hs : s < N) (ht : t < N) (hne : s ≠ t) :
    Calls Try.prog 49 #[.pointer (some ⟨fb, 0, none⟩), .pointer (some ⟨gb, 0, none⟩), .pointer (some ⟨vb, 0, none⟩)] w fun e w' =>
      (MaxOk es N n on m bs k s t ∧ e = .returned (.tuple #[]) ∧ ∃ wx, Kept w wx ∧ w' = wx.setCell ⟨vb, 0, none⟩ (.int .i64 (cutTo es (bAt bs) n))) ∨ (¬ MaxOk es N n on m bs k s t ∧ e = .panicked [{ v := .iface 136 (.agg #[.int .i64 221]), recovered := false }] ∧ Kept w w') := by
  obtain ⟨f0, f1, f2, f3⟩ := hF
  obtain ⟨g0, g1⟩ := hG
  have hN := RG.nodes
  have CS := hid_of (isNodeP_yes (s : Int) (N : Int) ⟨by omega, by omega⟩)
  have CT := hid_of (isNodeP_yes (t : Int) (N : Int) ⟨by omega, by omega⟩)
  have HE := hid_of h
  have HJ := hid_of hJ
  have HB := hid_of hB
  have RGH := hid_of RG
  have hr2 := hJ.room
  have hm2 := hJ.most
  have hr3 := hB.room
  have hm3 := hB.most
  unfold maxLen at hm2 hm3
  have hsi : (s : Int) < (N : Int) := by omega
  have hti : (t : Int) < (N : Int) := by omega
  have hsn : ((s : Int) != (t : Int)) = true := by simpa using fun e => hne (by omega)
  clear h hJ hB RG
  go_enter Try.func49, Try.ntmps49
  go_wp2_with fail
  refine (CS.out _ _).mono ?_
  rintro e wa ⟨rfl, K1⟩
  replace f0 := K1.cell f0
  replace f1 := K1.cell f1
  replace f2 := K1.cell f2
  replace f3 := K1.cell f3
  replace g0 := K1.cell g0
  replace g1 := K1.cell g1
  have HK := hid_of K1
  clear K1
  go_wp2_with fail
  refine (CT.out _ _).mono ?_
  rintro e wb ⟨rfl, K2⟩
  replace f0 := K2.cell f0
  replace f1 := K2.cell f1
  replace f2 := K2.cell f2
  replace f3 := K2.cell f3
  replace g0 := K2.cell g0
  replace g1 := K2.cell g1
  have HK2 := hid_of (HK.out.trans K2)
  clear K2 HK CS CT
  go_wp2_with fail
  refine (demand_ok 30 _).mono ?_
  rintro e wc ⟨rfl, rfl⟩
  go_wp2_with fail
  refine (demand_ok 120 _).mono ?_
  rintro e wc ⟨rfl, rfl⟩
  go_wp2_with fail
  refine (mustFit_calls (N : Int) ao n cap es bo m bc on wb (HE.out.kept HK2.out) (HJ.out.kept HK2.out)).mono ?_
  rintro e wc ⟨K3, ⟨fit, rfl⟩ | ⟨fit, rfl⟩⟩
  rotate_left
  · have HK3 := hid_of (HK2.out.trans K3)
    clear f0 f1 f2 f3 g0 g1 HK2 K3
    go_wp2
    exact ⟨rfl, .inr ⟨fun t => fit t.1, rfl, HK3.out⟩⟩
  replace f0 := K3.cell f0
  replace f1 := K3.cell f1
  replace f2 := K3.cell f2
  replace f3 := K3.cell f3
  replace g0 := K3.cell g0
  replace g1 := K3.cell g1
  have HK3 := hid_of (HK2.out.trans K3)
  have FIT := hid_of fit
  clear K3 HK2 fit
  by_cases hkN : k = N
  rotate_left
  · have q : ((k : Int) == (N : Int)) = false := by simp; omega
    go_wp2_with (go_at_call 53; refine (must_no _).mono ?_; rintro e w' ⟨rfl, rfl⟩)
    exact ⟨rfl, .inr ⟨fun t => hkN t.2.1, rfl, HK3.out⟩⟩
  subst hkN
  obtain rfl : m = n := FIT.out.1
  have HO := hid_of FIT.out.2
  have q : ((k : Int) == (k : Int)) = true := by simp
  go_wp2_with (go_at_call 53; refine (must_ok _).mono ?_; rintro e w' ⟨rfl, rfl⟩)
  have HO2 : Hid (∀ i, i < m → 0 ≤ zAt on i ∧ zAt on i ≤ 1048576) := fun i hi => by
    have h1 := HO.out i hi
    have h2 := RGH.out.caps i hi
    omega
  refine (surplus_calls ao k m cap es bo bc on wc (HE.out.kept HK3.out) (HJ.out.kept HK3.out) RGH.out HO2.out).mono ?_
  rintro e wd ⟨g, rfl, L4, K4⟩
  replace f0 := K4.cell f0
  replace f1 := K4.cell f1
  replace f2 := K4.cell f2
  replace f3 := K4.cell f3
  replace g0 := K4.cell g0
  replace g1 := K4.cell g1
  have HK4 := hid_of (HK3.out.trans K4)
  have L4H := hid_of L4
  clear K4 HK3 L4
  go_wp2_with fail
  go_loopw [4, 39] (fun _ i wr => ∃ (v : Nat), v ≤ k ∧ i = .int .i64 v ∧ wd = wr ∧ ∀ u : Nat, u < v → outTo es (zAt on) (u : Int) m = 0 ∨ u = s ∨ u = t) (fun _ i _ => k - (intOf i).toNat)
  case atStart => exact ⟨0, by omega, rfl, rfl, fun i hi => by omega⟩
  case round =>
    obtain ⟨v, hv2, rfl, rfl, hno⟩ := hrel
    have HNO := hid_of hno
    clear hno
    by_cases hgo : (v : Int) < (k : Int)
    · have d1 := L4H.out.cell (i := v) (by omega)
      have HIT : Hid ((outTo es (zAt on) (v : Int) m = 0 ∨ v = s ∨ v = t) → ∀ u : Nat, u < v + 1 → outTo es (zAt on) (u : Int) m = 0 ∨ u = s ∨ u = t) := fun hb i hi => by
        by_cases e : i = v
        · subst e; exact hb
        · exact HNO.out i (by omega)
      have MISS : Hid (¬ (outTo es (zAt on) (v : Int) m = 0 ∨ v = s ∨ v = t) → ¬ MaxOk es k m on m bs k s t) := fun hb q => hb (q.2.2.1 v (by omega))
      generalize outTo es (zAt on) (v : Int) m = x at d1 HIT MISS
      by_cases h0 : x = 0
      · have P := hid_of (HIT.out (.inl h0))
        have q0 : (x == 0) = true := by simpa using h0
        clear HIT MISS h0
        go_wp2_with (go_at_call 53; refine (must_ok _).mono ?_; rintro e w' ⟨rfl, rfl⟩)
        go_roundw
        case rel => exact ⟨v + 1, by omega, by go_num, by trivial, P.out⟩
        case measure => simp [intOf]; omega
      · have q0 : (x == 0) = false := by simpa using h0
        by_cases h1 : v = s
        · have P := hid_of (HIT.out (.inr (.inl h1)))
          have q1 : ((v : Int) == (s : Int)) = true := by simp [h1]
          clear HIT MISS h0 h1
          go_wp2_with (go_at_call 53; refine (must_ok _).mono ?_; rintro e w' ⟨rfl, rfl⟩)
          go_roundw
          case rel => exact ⟨v + 1, by omega, by go_num, by trivial, P.out⟩
          case measure => simp [intOf]; omega
        · have q1 : ((v : Int) == (s : Int)) = false := by simp; omega
          by_cases h2 : v = t
          · have P := hid_of (HIT.out (.inr (.inr h2)))
            have q2 : ((v : Int) == (t : Int)) = true := by simp [h2]
            clear HIT MISS h0 h1 h2
            go_wp2_with (go_at_call 53; refine (must_ok _).mono ?_; rintro e w' ⟨rfl, rfl⟩)
            go_roundw
            case rel => exact ⟨v + 1, by omega, by go_num, by trivial, P.out⟩
            case measure => simp [intOf]; omega
          · have P := hid_of (MISS.out (fun q => by rcases q with q | q | q <;> omega))
            have q2 : ((v : Int) == (t : Int)) = false := by simp; omega
            clear HIT MISS h0 h1 h2
            go_wp2_with (go_at_call 53; refine (must_no _).mono ?_; rintro e w' ⟨rfl, rfl⟩)
            exact ⟨rfl, .inr ⟨P.out, rfl, HK4.out⟩⟩
    · obtain rfl : v = k := by omega
      have ds := L4H.out.cell (i := s) hs
      have hr4 : v ≤ sc := hr3
      obtain ⟨b2, off2, rfl, hc2⟩ := (HB.out.kept HK4.out).at (by omega)
      have b1 := hc2 s hs
      have b3 := hc2 t ht
      clear hc2
      have MISS : Hid (¬ ((bAt bs s = true ∧ bAt bs t = false) ∧ outTo es (zAt on) (s : Int) m = cutTo es (bAt bs) m) → ¬ MaxOk es v m on m bs v s t) := fun hb q => hb q.2.2.2
      have HIT : Hid (((bAt bs s = true ∧ bAt bs t = false) ∧ outTo es (zAt on) (s : Int) m = cutTo es (bAt bs) m) → MaxOk es v m on m bs v s t) := fun hb => ⟨FIT.out, rfl, HNO.out, hb⟩
      have hnot : ∀ (x : Bool) (w : World), (Op.unary .not (.bool x)).run Try.prog w = .ok (.bool (!x)) w := fun _ _ => rfl
      have CL := hid_of (fun w' (K : Kept wd w') => leaving_calls (v : Int) ao v m cap es (some ⟨b2, off2, none⟩) sc bs w' (HE.out.kept (HK4.out.trans K)) (HB.out.kept (HK4.out.trans K)) RGH.out)
      generalize hx : outTo es (zAt on) (s : Int) m = x at ds HIT MISS
      generalize bAt bs s = p1 at b1 HIT MISS
      generalize bAt bs t = p2 at b3 HIT MISS
      clear hx
      cases p1
      · clear HIT
        go_wp2_with (go_at_call 53; refine (must_no _).mono ?_; rintro e w' ⟨rfl, rfl⟩)
        exact ⟨rfl, .inr ⟨MISS.out (fun q => by cases q.1.1), rfl, HK4.out⟩⟩
      · cases p2
        rotate_left
        · clear HIT
          go_wp2_with (go_at_call 53; refine (must_no _).mono ?_; rintro e w' ⟨rfl, rfl⟩)
          exact ⟨rfl, .inr ⟨MISS.out (fun q => by cases q.1.2), rfl, HK4.out⟩⟩
        · go_wp2_with (go_at_call 53; refine (must_ok _).mono ?_; rintro e w' ⟨rfl, rfl⟩)
          have hv4 := HK4.out.cell hv
          have hvf4 := (Below.frozen (p := ⟨vb, 0, none⟩) HK4.out (lt_cell hv)).trans hvf
          by_cases hq : x = cutTo es (bAt bs) m
          · have P := hid_of (HIT.out ⟨by simp, hq⟩)
            subst hq
            clear HIT MISS
            refine Ord.region [(0, 0), (1, 0), (2, 1), (3, 0), (4, 1), (5, 0), (6, 1), (7, 1), (8, 2), (9, 0), (10, 2)] (fun w' => Kept wd w') (by kernel_rfl) (by kernel_rfl) (by kernel_rfl) (by kernel_rfl) (fun _ _ d _ _ h => by cases d <;> exact h) ((Kept.refl _).drewN _) ?_
            repeat
              refine Ord.step rfl (fun Ko hK => ?_)
              simp only [Ord.body]
              go_simp
              first
                | (refine hK _ _ ?_; clear hK Ko)
                | (refine ⟨_, fun w' hS => (by have c0 := hS.cell f0; have c1 := hS.cell f3; have c2 := hS.cell g0; have c3 := hS.cell g1; have c4 := hS.cell ds; simp only [c0, c1, c2, c3, c4, Result.andThen]; rfl), hK _ _ ?_⟩; clear hK Ko)
                | (go_at_call 55; refine (CL.out _ ((Kept.refl _).drewN _)).mono ?_; rintro e w5 ⟨rfl, K5⟩; refine ⟨((Kept.refl _).drewN _).trans K5, hK _ _ ?_⟩; clear hK Ko)
                | (go_at_call 53; refine (must_ok _).mono ?_; rintro e w' ⟨rfl, rfl⟩; refine ⟨((Kept.refl _).drewN _).trans K5, hK _ _ ?_⟩; clear hK Ko)
            refine Ord.done ?_
            have K6 := ((Kept.refl wd).drewN 1).trans K5
            replace f0 := K6.cell f0
            replace ds := K6.cell ds
            replace hv4 := K6.cell hv4
            have hvf5 := (Below.frozen (p := ⟨vb, 0, none⟩) (HK4.out.trans K6) (lt_cell hv)).trans hvf
            have HK6 := hid_of (HK4.out.trans K6)
            clear f1 f2 f3 g0 g1 hvf4 K5 K6 CL b1 b3
            go_wp2
            exact bodyPost_end (v := .tuple #[]) (by simp [results, Try.results49]) rfl (.inl ⟨P.out, rfl, _, HK6.out, rfl⟩)
          · have P := hid_of (MISS.out (fun t => hq t.2))
            have qq : (x == cutTo es (bAt bs) m) = false := by simpa using hq
            clear HIT MISS
            refine Ord.region [(0, 0), (1, 0), (2, 1), (3, 0), (4, 1), (5, 0), (6, 1), (7, 1), (8, 2), (9, 0), (10, 2)] (fun w' => Kept wd w') (by kernel_rfl) (by kernel_rfl) (by kernel_rfl) (by kernel_rfl) (fun _ _ d _ _ h => by cases d <;> exact h) ((Kept.refl _).drewN _) ?_
            repeat
              refine Ord.step rfl (fun Ko hK => ?_)
              simp only [Ord.body]
              go_simp
              first
                | (refine hK _ _ ?_; clear hK Ko)
                | (refine ⟨_, fun w' hS => (by have c0 := hS.cell f0; have c1 := hS.cell f3; have c2 := hS.cell g0; have c3 := hS.cell g1; have c4 := hS.cell ds; simp only [c0, c1, c2, c3, c4, Result.andThen]; rfl), hK _ _ ?_⟩; clear hK Ko)
                | (go_at_call 55; refine (CL.out _ ((Kept.refl _).drewN _)).mono ?_; rintro e w5 ⟨rfl, K5⟩; refine ⟨((Kept.refl _).drewN _).trans K5, hK _ _ ?_⟩; clear hK Ko)
                | (go_at_call 53; refine (must_no _).mono ?_; rintro e w' ⟨rfl, rfl⟩)
            go_simp
            exact ⟨rfl, .inr ⟨P.out, rfl, HK4.out.trans (((Kept.refl wd).drewN 1).trans K5)⟩⟩
end Go.Proofs.Ytomopfjaebcpeaa

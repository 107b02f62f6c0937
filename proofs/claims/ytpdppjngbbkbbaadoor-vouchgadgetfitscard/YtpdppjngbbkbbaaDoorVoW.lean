/- The look of Covered; Covered. -/
import Derived.Test.YtpdppjngbbkbbaaDoorVoV
namespace Go.Proofs.YtpdppjngbbkbbaaDoor
open Go.RowKit

/-- An edge that is covered. -/
def CovE (es : List Ed) (x : List Int) (lx i : Nat) : Prop := lp es i = true ∨ inTo x lx (edAt es i).f.toNat = true ∨ inTo x lx (edAt es i).t.toNat = true
/-- A matching with a cover that proves it largest. -/
def CovOk (es : List Ed) (N n : Nat) (m : List Int) (lm : Nat) (x : List Int) (lx : Nat) : Prop := MatchOk es n m lm ∧ RiseTo x (N : Int) lx ∧ lx = lm ∧ ∀ i, i < n → CovE es x lx i

set_option maxRecDepth 100000 in
set_option linter.unusedSimpArgs false in
set_option maxHeartbeats 4000000 in
theorem covLook_calls (mb gb xb rb : Nat) (mo : Option Addr) (lm mc : Nat) (m : List Int) (xo : Option Addr) (lx xc : Nat) (x : List Int) (N : Nat) (ao : Option Addr) (n cap : Nat) (es : List Ed) (w : World) (hm : w.cell? ⟨mb, 0, none⟩ = some (.slice mo lm mc)) (hG : GBox w gb (N : Int) ao n cap) (hx : w.cell? ⟨xb, 0, none⟩ = some (.slice xo lx xc)) (r0 : w.cell? ⟨rb, 0, none⟩ = some (.int .i64 0)) (rf : w.frozen? ⟨rb, 0, none⟩ = false) (h : ERow w ao n cap es) (hJ : JRow w mo lm mc m) (hX : JRow w xo lx xc x) (RG : Right N n es) :
    Calls Tryd.prog 48 #[.pointer (some ⟨mb, 0, none⟩), .pointer (some ⟨gb, 0, none⟩), .pointer (some ⟨xb, 0, none⟩), .pointer (some ⟨rb, 0, none⟩)] w fun e w' =>
      (CovOk es N n m lm x lx ∧ e = .returned (.tuple #[]) ∧ ∃ wx, Kept w wx ∧ w' = wx.setCell ⟨rb, 0, none⟩ (.int .i64 (lm : Int))) ∨ (¬ CovOk es N n m lm x lx ∧ e = .panicked [{ v := .iface 140 (.agg #[.int .i64 221]), recovered := false }] ∧ Kept w w') := by
  obtain ⟨g0, g1⟩ := hG
  have hN := RG.nodes
  have hn := RG.edges
  have hr2 := hJ.room
  have hm2 := hJ.most
  have hr3 := hX.room
  have hm3 := hX.most
  unfold maxLen at hm2 hm3
  have HE := hid_of h
  have HJ := hid_of hJ
  have HX := hid_of hX
  have RGH := hid_of RG
  have HR0 := hid_of r0
  have HRF := hid_of rf
  clear h hJ hX RG r0 rf
  go_enter Tryd.func48, Tryd.ntmps48
  go_wp2_with fail
  refine (mustMatch_calls mo lm mc m N ao n cap es w HJ.out HE.out RGH.out).mono ?_
  rintro e wa ⟨K1, ⟨ok, rfl⟩ | ⟨ok, rfl⟩⟩
  rotate_left
  · have HK := hid_of K1
    clear hm g0 g1 hx K1
    go_wp2
    exact ⟨rfl, .inr ⟨fun t => ok t.1, rfl, HK.out⟩⟩
  replace hm := K1.cell hm
  replace g0 := K1.cell g0
  replace g1 := K1.cell g1
  replace hx := K1.cell hx
  have HK := hid_of K1
  have MOK := hid_of ok
  clear K1 ok
  go_wp2_with fail
  refine (mustRise_calls xo lx xc x (N : Int) wa (HX.out.kept HK.out)).mono ?_
  rintro e wb ⟨K2, ⟨ris, rfl⟩ | ⟨ris, rfl⟩⟩
  rotate_left
  · have HK2 := hid_of (HK.out.trans K2)
    clear hm g0 g1 hx K2
    go_wp2
    exact ⟨rfl, .inr ⟨fun t => ris t.2.1, rfl, HK2.out⟩⟩
  replace hm := K2.cell hm
  replace g0 := K2.cell g0
  replace g1 := K2.cell g1
  replace hx := K2.cell hx
  have HK2 := hid_of (HK.out.trans K2)
  have RIS := hid_of ris
  clear K2 HK ris
  by_cases hlen : lx = lm
  rotate_left
  · have q : ((lx : Int) == (lm : Int)) = false := by rw [beq_eq_false_iff_ne]; omega
    go_wp2_with (go_at_call 51; refine (must_no _).mono ?_; rintro e w' ⟨rfl, rfl⟩)
    exact ⟨rfl, .inr ⟨fun t => hlen t.2.2.1, rfl, HK2.out⟩⟩
  subst hlen
  have q : ((lx : Int) == (lx : Int)) = true := by simp
  have MB := hid_of (members_calls xo lx xc x N hN wb (HX.out.kept HK2.out) (fun j hj => RIS.out.rng hj))
  go_wp2_with (go_at_call 51; refine (must_ok _).mono ?_; rintro e w' ⟨rfl, rfl⟩)
  refine MB.out.mono ?_
  rintro e wc ⟨q1, rfl, hq1, K3, B1⟩
  replace hm := K3.cell hm
  replace g1 := K3.cell g1
  have HM3 := hid_of hm
  have G13 := hid_of g1
  have HK3 := hid_of (HK2.out.trans K3)
  have B1H := hid_of B1
  clear K3 HK2 g0 hx MB B1 hm
  go_wp2_with fail
  go_loopw [6, 27] (fun _ i wr => ∃ (k : Nat), k ≤ n ∧ i = .int .i64 k ∧ Kept wc wr ∧ ∀ j, j < k → CovE es x lx j) (fun _ i _ => n - (intOf i).toNat)
  case atStart => exact ⟨0, by omega, rfl, Kept.refl _, fun i hi => by omega⟩
  case round =>
    obtain ⟨k, hk, rfl, K, hno⟩ := hrel
    have HNO := hid_of hno
    have KH := hid_of K
    clear hno g1
    by_cases hgo : (k : Int) < (n : Int)
    · obtain ⟨b, off, rfl, hc⟩ := (HE.out.kept (HK3.out.trans K)).cell (by omega)
      obtain ⟨d1, d2, d3, d4⟩ := hc k (by omega)
      obtain ⟨e1, e2, e3, e4⟩ := RGH.out.ends k (by omega)
      have HIT : Hid (CovE es x lx k → ∀ j, j < k + 1 → CovE es x lx j) := fun hb i hi => by
        by_cases e : i = k
        · subst e; exact hb
        · exact HNO.out i (by omega)
      have MISS : Hid (¬ CovE es x lx k → ¬ CovOk es N n m lx x lx) := fun hb t => hb (t.2.2.2 k (by omega))
      unfold CovE lp at HIT MISS
      have BR := hid_of (B1H.out.kept K)
      generalize edAt es k = e at d1 d2 d3 d4 e1 e2 e3 e4 HIT MISS
      have CL := hid_of (isLoop_calls e)
      obtain ⟨ef, et, ec, ek⟩ := e
      simp only at d1 d2 d3 d4 e1 e2 e3 e4 HIT MISS
      obtain ⟨f, rfl⟩ : ∃ f : Nat, ef = (f : Int) := ⟨ef.toNat, by omega⟩
      obtain ⟨t, rfl⟩ : ∃ t : Nat, et = (t : Int) := ⟨et.toNat, by omega⟩
      simp only [Int.toNat_natCast] at HIT MISS
      have hfN : f < N := by omega
      have htN : t < N := by omega
      clear hc K
      go_upto_region 7 with fail
      generalize hW : wr.alloc (Obj.cells #[.int .i64 (f : Int), .int .i64 (t : Int), .int .i64 ec, .int .i64 ek] 86) = W3
      obtain ⟨EK, a0, a1, a2, a3, -⟩ := edge_box hW
      have K3 := hid_of (KH.out.trans EK)
      have B3 := hid_of (BR.out.kept EK)
      clear d1 d2 d3 d4 EK KH hW BR
      go_wp2_with fail
      refine (CL.out _).mono ?_
      rintro e w4 ⟨rfl, K4⟩
      replace a0 := K4.cell a0
      replace a1 := K4.cell a1
      have B4 := hid_of (B3.out.kept K4)
      have HK4 := hid_of (K3.out.trans K4)
      have cf := B4.out.cell hfN
      have ct := B4.out.cell htN
      clear K4 CL a2 a3 K3 B3 B4
      by_cases hft : f = t
      · have hq : ((f : Int) == (t : Int)) = true := by rw [beq_iff_eq]; omega
        have P := hid_of (HIT.out (.inl hq))
        clear HIT MISS cf ct
        go_wp2_with (go_at_call 51; refine (must_ok _).mono ?_; rintro e w' ⟨rfl, rfl⟩)
        go_roundw
        case rel => exact ⟨k + 1, by omega, by go_num, HK4.out, P.out⟩
        case measure => simp [intOf]; omega
      have hq : ((f : Int) == (t : Int)) = false := by rw [beq_eq_false_iff_ne]; omega
      by_cases hf : inTo x lx f = true
      · have P := hid_of (HIT.out (.inr (.inl hf)))
        rw [hf] at cf
        clear HIT MISS ct
        go_wp2_with (go_at_call 51; refine (must_ok _).mono ?_; rintro e w' ⟨rfl, rfl⟩)
        go_roundw
        case rel => exact ⟨k + 1, by omega, by go_num, HK4.out, P.out⟩
        case measure => simp [intOf]; omega
      have hf' : inTo x lx f = false := by simpa using hf
      by_cases ht : inTo x lx t = true
      · have P := hid_of (HIT.out (.inr (.inr ht)))
        rw [hf'] at cf
        rw [ht] at ct
        clear HIT MISS
        go_wp2_with (go_at_call 51; refine (must_ok _).mono ?_; rintro e w' ⟨rfl, rfl⟩)
        go_roundw
        case rel => exact ⟨k + 1, by omega, by go_num, HK4.out, P.out⟩
        case measure => simp [intOf]; omega
      have ht' : inTo x lx t = false := by simpa using ht
      have P := hid_of (MISS.out (fun s => by
        rcases s with s | s | s
        · rw [hq] at s; cases s
        · exact hf s
        · exact ht s))
      have KF := hid_of (HK3.out.trans HK4.out)
      rw [hf'] at cf
      rw [ht'] at ct
      clear HIT MISS
      go_wp2_with (go_at_call 51; refine (must_no _).mono ?_; rintro e w' ⟨rfl, rfl⟩)
      exact ⟨rfl, .inr ⟨P.out, rfl, KF.out⟩⟩
    · obtain rfl : k = n := by omega
      have hm := K.cell HM3.out
      have KF := hid_of (HK3.out.trans K)
      have r1 := KF.out.cell HR0.out
      have rf1 := (Below.frozen (p := ⟨rb, 0, none⟩) KF.out (lt_cell HR0.out)).trans HRF.out
      have P : Hid (CovOk es N k m lx x lx) := ⟨MOK.out, RIS.out, rfl, HNO.out⟩
      clear K KH
      go_wp2
      exact bodyPost_end (v := .tuple #[]) (by simp [results, Tryd.results48]) rfl (.inl ⟨P.out, rfl, wr, KF.out, rfl⟩)

open Classical in
/-- What Covered answers. -/
noncomputable def covAns (nodes : Int) (es : List Ed) (n : Nat) (m : List Int) (lm : Nat) (x : List Int) (lx : Nat) : Int × Int :=
  if (faultOf nodes es).1 ≠ 0 then (0, (faultOf nodes es).1) else if CovOk es nodes.toNat n m lm x lx then ((lm : Int), 0) else (0, 221)

theorem covered_calls (nodes : Int) (ao : Option Addr) (n cap : Nat) (es : List Ed) (mo : Option Addr) (lm mc : Nat) (m : List Int) (xo : Option Addr) (lx xc : Nat) (x : List Int) (w : World) (h : ERow w ao n cap es) (hJ : JRow w mo lm mc m) (hX : JRow w xo lx xc x) (v code : Int) (hans : Hid (covAns nodes es n m lm x lx = (v, code))) :
    Calls Tryd.prog 17 #[.agg #[.int .i64 nodes, .slice ao n cap], .slice mo lm mc, .slice xo lx xc] w fun e w' => e = .returned (.tuple #[.int .i64 v, .int .i64 code]) ∧ Kept w w' := by
  have ha := hans.out
  unfold covAns at ha
  refine covered_wrap nodes ao n cap es mo lm mc xo lx xc w h v code (fun hc w1 K G a1 a2 r0 rf => ?_) (fun hne => ?_) (fun hc => ?_)
  · rw [if_neg (by simp [hc])] at ha
    obtain ⟨N, rfl, RG⟩ := right_of (fault_zero hc)
    rw [← h.len] at RG
    rw [Int.toNat_natCast] at ha
    refine (covLook_calls (w.heap.size + 1) w.heap.size (w.heap.size + 2) (w.heap.size + 3) mo lm mc m xo lx xc x N ao n cap es w1 a1 G a2 r0 rf (h.kept K) (hJ.kept K) (hX.kept K) RG).mono fun e w2 hp => ?_
    rcases hp with ⟨ok, h1, wx, Kx, h2⟩ | ⟨ok, h1, h2⟩
    · rw [if_pos ok] at ha
      obtain ⟨rfl, rfl⟩ := Prod.mk.inj ha
      exact .inl ⟨rfl, h1, wx, Kx, h2⟩
    · rw [if_neg ok] at ha
      obtain ⟨rfl, rfl⟩ := Prod.mk.inj ha
      exact .inr ⟨by decide, rfl, h1, h2⟩
  · split at ha
    · exact (Prod.mk.inj ha).1.symm
    · split at ha
      · exact absurd (Prod.mk.inj ha).2.symm hne
      · exact (Prod.mk.inj ha).1.symm
  · rw [if_pos hc] at ha
    obtain ⟨rfl, rfl⟩ := Prod.mk.inj ha
    exact ⟨rfl, rfl⟩
end Go.Proofs.YtpdppjngbbkbbaaDoor

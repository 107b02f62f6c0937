/- The look of Postman. -/
import Derived.Test.YtomopfjaebcpeaaPrP
import Derived.Test.YtomopfjaebcpeaaPrL
namespace Go.Proofs.Ytomopfjaebcpeaa
open Go.RowKit

/-- No cost is below 0. -/
def CostsOk (es : List Ed) (n : Nat) : Prop := ∀ i, i < n → 0 ≤ (edAt es i).k
/-- Each edge is walked once or more. -/
def TimesOk (ts : List Int) (m n : Nat) : Prop := m = n ∧ ∀ i, i < n → 1 ≤ zAt ts i ∧ zAt ts i ≤ 1048576
/-- What potentials prove of how often an edge is walked. -/
def TurnOk (es : List Ed) (ts pot : Nat → Int) (i : Nat) : Prop := redOf es pot i = 0 ∨ (0 < redOf es pot i ∧ ts i = 1)
/-- What a round and potentials must be to be proved cheapest. -/
def RoundOk (es : List Ed) (N n : Nat) (ts : List Int) (m : Nat) (pot : List Int) (mp : Nat) : Prop :=
  TimesOk ts m n ∧ (∀ v : Nat, v < N → outTo es (zAt ts) (v : Int) n = 0) ∧ HangOk es n ∧ PotsOk pot mp N ∧ ∀ i, i < n → TurnOk es (zAt ts) (zAt pot) i
theorem times_small {ts : List Int} {n m : Nat} (h : TimesOk ts m n) : ∀ i, i < n → 0 ≤ zAt ts i ∧ zAt ts i ≤ 1048576 := fun i hi => by have := h.2 i hi; omega

set_option maxRecDepth 100000 in
set_option linter.unusedSimpArgs false in
set_option maxHeartbeats 8000000 in
theorem roundLook_calls (gb fb vb : Nat) (bo : Option Addr) (m bc : Nat) (ts : List Int) (po : Option Addr) (mp pc : Nat) (pot : List Int) (N : Nat) (ao : Option Addr) (n cap : Nat) (es : List Ed) (w : World) (hF : Box2 w fb (.slice bo m bc) (.slice po mp pc)) (hG : GBox w gb (N : Int) ao n cap)
    (x0 : Value) (hv : w.cell? ⟨vb, 0, none⟩ = some x0) (hvf : w.frozen? ⟨vb, 0, none⟩ = false) (h : ERow w ao n cap es) (hJ : JRow w bo m bc ts) (hP : JRow w po mp pc pot) (RG : Right N n es) :
    Calls Try.prog 71 #[.pointer (some ⟨gb, 0, none⟩), .pointer (some ⟨fb, 0, none⟩), .pointer (some ⟨vb, 0, none⟩)] w fun e w' =>
      (CostsOk es n ∧ RoundOk es N n ts m pot mp ∧ e = .returned (.tuple #[]) ∧ ∃ wx, Kept w wx ∧ w' = wx.setCell ⟨vb, 0, none⟩ (.int .i64 (costTo es (zAt ts) n))) ∨ (¬ CostsOk es n ∧ e = .panicked [{ v := .iface 136 (.agg #[.int .i64 80]), recovered := false }] ∧ Kept w w') ∨ (CostsOk es n ∧ ¬ RoundOk es N n ts m pot mp ∧ e = .panicked [{ v := .iface 136 (.agg #[.int .i64 221]), recovered := false }] ∧ Kept w w') := by
  obtain ⟨f0, f1⟩ := hF
  obtain ⟨g0, g1⟩ := hG
  have hN := RG.nodes
  have HE := hid_of h
  have HJ := hid_of hJ
  have HP := hid_of hP
  have RGH := hid_of RG
  have hr2 := hJ.room
  have hm2 := hJ.most
  have hr3 := hP.room
  have hm3 := hP.most
  have hr4 := h.room
  have hm4 := h.most
  unfold maxLen at hm2 hm3 hm4
  clear h hJ hP RG
  go_enter Try.func71, Try.ntmps71
  go_wp2_with fail
  go_loopw [4, 15] (fun _ i wr => ∃ (k : Nat), k ≤ n ∧ i = .int .i64 k ∧ Kept w wr ∧ ∀ j, j < k → 0 ≤ (edAt es j).k) (fun _ i _ => n - (intOf i).toNat)
  case atStart => exact ⟨0, by omega, rfl, Kept.refl _, fun i hi => by omega⟩
  case round =>
    obtain ⟨k, hk, rfl, K, hno⟩ := hrel
    have HNO := hid_of hno
    clear hno
    by_cases hgo : (k : Int) < (n : Int)
    · obtain ⟨b, off, rfl, hc⟩ := (HE.out.kept K).cell (by omega)
      obtain ⟨d1, d2, d3, d4⟩ := hc k (by omega)
      clear hc
      have HIT : Hid (0 ≤ (edAt es k).k → ∀ j, j < k + 1 → 0 ≤ (edAt es j).k) := fun hb i hi => by
        by_cases e : i = k
        · subst e; exact hb
        · exact HNO.out i (by omega)
      have MISS : Hid (¬ 0 ≤ (edAt es k).k → ¬ CostsOk es n) := fun hb q => hb (q k (by omega))
      generalize edAt es k = e at d1 d2 d3 d4 HIT MISS
      obtain ⟨ef, et, ec, ek⟩ := e
      simp only at d1 d2 d3 d4 HIT MISS
      have KE := hid_of (K.alloc (Obj.cells #[.int .i64 ef, .int .i64 et, .int .i64 ec, .int .i64 ek] 98))
      by_cases h0 : 0 ≤ ek
      · have P := hid_of (HIT.out h0)
        clear HIT MISS K
        go_wp2_with (go_at_call 50; refine (demand_ok _ _).mono ?_; rintro e w' ⟨rfl, rfl⟩)
        go_roundw
        case rel => exact ⟨k + 1, by omega, by go_num, KE.out, P.out⟩
        case measure => simp [intOf]; omega
      · have P := hid_of (MISS.out h0)
        have q0 : decide (0 ≤ ek) = false := decide_eq_false h0
        clear HIT MISS K
        go_wp2_with (go_at_call 50; (try rw [show decide (0 ≤ ek) = false from decide_eq_false (by omega)]); refine (demand_no _ _).mono ?_; rintro e w' ⟨rfl, rfl⟩)
        exact ⟨rfl, .inr (.inl ⟨P.out, rfl, KE.out⟩)⟩
    · obtain rfl : k = n := by omega
      have COS : Hid (CostsOk es k) := HNO.out
      have HK := hid_of K
      replace f0 := K.cell f0
      replace f1 := K.cell f1
      replace g0 := K.cell g0
      replace g1 := K.cell g1
      clear HNO K
      by_cases hmn : m = k
      rotate_left
      · have q : ((m : Int) == (k : Int)) = false := by simp; omega
        go_wp2_with (go_at_call 53; refine (must_no _).mono ?_; rintro e w' ⟨rfl, rfl⟩)
        exact ⟨rfl, .inr (.inr ⟨COS.out, fun t => hmn t.1.1, rfl, HK.out⟩)⟩
      subst hmn
      have qmm : ((m : Int) == (m : Int)) = true := by simp
      go_wp2_with (go_at_call 53; refine (must_ok _).mono ?_; rintro e w' ⟨rfl, rfl⟩)
      go_loopw [6, 35] (fun _ i w2 => ∃ (j : Nat), j ≤ m ∧ i = .int .i64 j ∧ wr = w2 ∧ ∀ q, q < j → 1 ≤ zAt ts q ∧ zAt ts q ≤ 1048576) (fun _ i _ => m - (intOf i).toNat)
      case atStart => exact ⟨0, by omega, rfl, rfl, fun i hi => by omega⟩
      case round =>
        obtain ⟨j, hj, rfl, rfl, hno⟩ := hrel
        have HNO := hid_of hno
        clear hno
        by_cases hgo2 : (j : Int) < (m : Int)
        · obtain ⟨b2, off2, rfl, hc2⟩ := (HJ.out.kept HK.out).at (by omega)
          have d5 := hc2 j (by omega)
          clear hc2
          have HIT : Hid ((1 ≤ zAt ts j ∧ zAt ts j ≤ 1048576) → ∀ q, q < j + 1 → 1 ≤ zAt ts q ∧ zAt ts q ≤ 1048576) := fun hb i hi => by
            by_cases e : i = j
            · subst e; exact hb
            · exact HNO.out i (by omega)
          have MISS : Hid (¬ (1 ≤ zAt ts j ∧ zAt ts j ≤ 1048576) → ¬ RoundOk es N m ts m pot mp) := fun hb t => hb (t.1.2 j (by omega))
          generalize zAt ts j = x at d5 HIT MISS
          by_cases hx : 1 ≤ x
          · by_cases hy : x ≤ 1048576
            · have P := hid_of (HIT.out ⟨hx, hy⟩)
              clear HIT MISS
              go_wp2_with (go_at_call 53; refine (must_ok _).mono ?_; rintro e w' ⟨rfl, rfl⟩)
              go_roundw
              case rel => exact ⟨j + 1, by omega, by go_num, by trivial, P.out⟩
              case measure => simp [intOf]; omega
            · have P := hid_of (MISS.out (fun t => hy t.2))
              have q0 : decide (x ≤ 1048576) = false := decide_eq_false hy
              clear HIT MISS
              go_wp2_with (go_at_call 53; (try rw [show decide (x ≤ 1048576) = false from decide_eq_false (by omega)]); refine (must_no _).mono ?_; rintro e w' ⟨rfl, rfl⟩)
              exact ⟨rfl, .inr (.inr ⟨COS.out, P.out, rfl, HK.out⟩)⟩
          · have P := hid_of (MISS.out (fun t => hx t.1))
            clear HIT MISS
            go_wp2_with (go_at_call 53; refine (must_no _).mono ?_; rintro e w' ⟨rfl, rfl⟩)
            exact ⟨rfl, .inr (.inr ⟨COS.out, P.out, rfl, HK.out⟩)⟩
        · obtain rfl : j = m := by omega
          have TOK : Hid (TimesOk ts j j) := ⟨rfl, HNO.out⟩
          have SM := hid_of (times_small TOK.out)
          clear HNO
          go_wp2_with fail
          refine (surplus_calls ao N j cap es bo bc ts wr (HE.out.kept HK.out) (HJ.out.kept HK.out) RGH.out SM.out).mono ?_
          rintro e wd ⟨g, rfl, L4, K4⟩
          replace f0 := K4.cell f0
          replace f1 := K4.cell f1
          replace g0 := K4.cell g0
          replace g1 := K4.cell g1
          have HK4 := hid_of (HK.out.trans K4)
          have L4H := hid_of L4
          clear K4 HK L4
          go_wp2_with fail
          go_loopw [8, 52] (fun _ i w2 => ∃ (v : Nat), v ≤ N ∧ i = .int .i64 v ∧ wd = w2 ∧ ∀ u : Nat, u < v → outTo es (zAt ts) (u : Int) j = 0) (fun _ i _ => N - (intOf i).toNat)
          case atStart => exact ⟨0, by omega, rfl, rfl, fun i hi => by omega⟩
          case round =>
            obtain ⟨v, hv2, rfl, rfl, hno⟩ := hrel
            have HNO := hid_of hno
            clear hno
            by_cases hgo3 : (v : Int) < (N : Int)
            · have d1 := L4H.out.cell (i := v) (by omega)
              have HIT : Hid (outTo es (zAt ts) (v : Int) j = 0 → ∀ u : Nat, u < v + 1 → outTo es (zAt ts) (u : Int) j = 0) := fun hb i hi => by
                by_cases e : i = v
                · subst e; exact hb
                · exact HNO.out i (by omega)
              have MISS : Hid (¬ outTo es (zAt ts) (v : Int) j = 0 → ¬ RoundOk es N j ts j pot mp) := fun hb q => hb (q.2.1 v (by omega))
              generalize outTo es (zAt ts) (v : Int) j = x at d1 HIT MISS
              by_cases h0 : x = 0
              · have P := hid_of (HIT.out h0)
                have q0 : (x == 0) = true := by simpa using h0
                clear HIT MISS h0
                go_wp2_with (go_at_call 53; refine (must_ok _).mono ?_; rintro e w' ⟨rfl, rfl⟩)
                go_roundw
                case rel => exact ⟨v + 1, by omega, by go_num, by trivial, P.out⟩
                case measure => simp [intOf]; omega
              · have P := hid_of (MISS.out h0)
                have q0 : (x == 0) = false := by simpa using h0
                clear HIT MISS h0
                go_wp2_with (go_at_call 53; refine (must_no _).mono ?_; rintro e w' ⟨rfl, rfl⟩)
                exact ⟨rfl, .inr (.inr ⟨COS.out, P.out, rfl, HK4.out⟩)⟩
            · obtain rfl : v = N := by omega
              have EVEN := hid_of HNO.out
              clear HNO L4H
              go_wp2_with fail
              refine (hang_calls ao v j cap es wd (HE.out.kept HK4.out) RGH.out).mono ?_
              rintro e we ⟨K5, ⟨hok, rfl⟩ | ⟨hok, rfl⟩⟩
              rotate_left
              · have HK5 := hid_of (HK4.out.trans K5)
                clear f0 f1 g0 g1 HK4 K5
                go_wp2
                exact ⟨rfl, .inr (.inr ⟨COS.out, fun t => hok t.2.2.1, rfl, HK5.out⟩)⟩
              replace f0 := K5.cell f0
              replace f1 := K5.cell f1
              replace g0 := K5.cell g0
              replace g1 := K5.cell g1
              have HK5 := hid_of (HK4.out.trans K5)
              have HOK := hid_of hok
              clear K5 HK4 hok
              go_wp2_with fail
              refine (mustPot_calls v (.slice ao j cap) po mp pc pot we (HP.out.kept HK5.out)).mono ?_
              rintro e wf ⟨K6, ⟨pok, rfl⟩ | ⟨pok, rfl⟩⟩
              rotate_left
              · have HK6 := hid_of (HK5.out.trans K6)
                clear f0 f1 g0 g1 HK5 K6
                go_wp2
                exact ⟨rfl, .inr (.inr ⟨COS.out, fun t => pok t.2.2.2.1, rfl, HK6.out⟩)⟩
              replace f0 := K6.cell f0
              replace f1 := K6.cell f1
              replace g0 := K6.cell g0
              replace g1 := K6.cell g1
              have HK6 := hid_of (HK5.out.trans K6)
              have POK := hid_of pok
              clear K6 HK5 pok
              obtain rfl : mp = v := POK.out.1
              have CR := hid_of (fun (e : Ed) (w' : World) (K : Kept wf w') (h1 : 0 ≤ e.f) (h2 : e.f < (mp : Int)) (h3 : 0 ≤ e.t) (h4 : e.t < (mp : Int)) (h5 : -1048576 ≤ e.k) (h6 : e.k ≤ 1048576) => reduced_calls e mp po pc pot w' (HP.out.kept (HK6.out.trans K)) h1 h2 h3 h4 h5 h6 POK.out.2)
              go_wp2_with fail
              go_loopw [9, 10, 11, 69] (fun _ _ _ i w2 => ∃ (q : Nat), q ≤ j ∧ i = .int .i64 q ∧ Kept wf w2 ∧ ∀ p, p < q → TurnOk es (zAt ts) (zAt pot) p) (fun _ _ _ i _ => j - (intOf i).toNat)
              case atStart => exact ⟨0, by omega, rfl, Kept.refl _, fun i hi => by omega⟩
              case round =>
                obtain ⟨q, hq, rfl, K, hno⟩ := hrel
                have HNO := hid_of hno
                clear hno
                replace f0 := K.cell f0
                replace f1 := K.cell f1
                by_cases hgo4 : (q : Int) < (j : Int)
                · obtain ⟨b, off, rfl, hc⟩ := (HE.out.kept (HK6.out.trans K)).cell (by omega)
                  obtain ⟨d1, d2, d3, d4⟩ := hc q (by omega)
                  obtain ⟨e1, e2, e3, e4⟩ := RGH.out.ends q (by omega)
                  obtain ⟨l1, l2⟩ := RGH.out.costs q (by omega)
                  obtain ⟨b2, off2, rfl, hc2⟩ := (HJ.out.kept (HK6.out.trans K)).at (by omega)
                  have d5 := hc2 q (by omega)
                  clear hc hc2
                  have HIT : Hid (TurnOk es (zAt ts) (zAt pot) q → ∀ p, p < q + 1 → TurnOk es (zAt ts) (zAt pot) p) := fun hb i hi => by
                    by_cases e : i = q
                    · subst e; exact hb
                    · exact HNO.out i (by omega)
                  have MISS : Hid (¬ TurnOk es (zAt ts) (zAt pot) q → ¬ RoundOk es mp j ts j pot mp) := fun hb t => hb (t.2.2.2.2 q (by omega))
                  have C1 := hid_of (fun w' K => CR.out (edAt es q) w' K e1 e2 e3 e4 l1 l2)
                  unfold TurnOk redOf at HIT MISS
                  clear e1 e2 e3 e4 l1 l2
                  generalize (edAt es q).k + zAt pot (edAt es q).f.toNat - zAt pot (edAt es q).t.toNat = r at HIT MISS C1
                  generalize zAt ts q = x at d5 HIT MISS
                  generalize edAt es q = e at d1 d2 d3 d4 C1
                  obtain ⟨ef, et, ec, ek⟩ := e
                  simp only at d1 d2 d3 d4 C1
                  have KE := K.alloc (Obj.cells #[.int .i64 ef, .int .i64 et, .int .i64 ec, .int .i64 ek] 98)
                  have KA := (Kept.refl wr).alloc (Obj.cells #[.int .i64 ef, .int .i64 et, .int .i64 ec, .int .i64 ek] 98)
                  replace d5 := KA.cell d5
                  replace f0 := KA.cell f0
                  replace f1 := KA.cell f1
                  clear KA
                  go_wp2_with fail
                  generalize wr.alloc (Obj.cells #[.int .i64 ef, .int .i64 et, .int .i64 ec, .int .i64 ek] 98) = W2 at KE d5 f0 f1 ⊢
                  refine (C1.out _ KE).mono ?_
                  rintro e w5 ⟨rfl, K5⟩
                  replace d5 := K5.cell d5
                  replace f0 := K5.cell f0
                  replace f1 := K5.cell f1
                  have KN := hid_of (KE.trans K5)
                  clear KE K5 C1 d1 d2 d3 d4
                  by_cases hr0 : r = 0
                  · have P := hid_of (HIT.out (.inl hr0))
                    subst hr0
                    clear HIT MISS
                    go_wp2_with (go_at_call 53; refine (must_ok _).mono ?_; rintro e w' ⟨rfl, rfl⟩)
                    go_roundw
                    case rel => exact ⟨q + 1, by omega, by go_num, KN.out, P.out⟩
                    case measure => simp [intOf]; omega
                  have qr : (r == 0) = false := by simpa using hr0
                  by_cases hrp : 0 < r
                  · have qp : decide (0 < r) = true := decide_eq_true hrp
                    by_cases hx : x = 1
                    · have P := hid_of (HIT.out (.inr ⟨hrp, hx⟩))
                      have qx : (x == 1) = true := by simpa using hx
                      clear HIT MISS hx hr0
                      go_wp2_with (go_at_call 53; refine (must_ok _).mono ?_; rintro e w' ⟨rfl, rfl⟩)
                      go_roundw
                      case rel => exact ⟨q + 1, by omega, by go_num, KN.out, P.out⟩
                      case measure => simp [intOf]; omega
                    · have P := hid_of (MISS.out (fun t => by rcases t with t | t; exact hr0 t; exact hx t.2))
                      have qx : (x == 1) = false := by simpa using hx
                      clear HIT MISS hx hr0
                      go_wp2_with (go_at_call 53; refine (must_no _).mono ?_; rintro e w' ⟨rfl, rfl⟩)
                      exact ⟨rfl, .inr (.inr ⟨COS.out, P.out, rfl, HK6.out.trans KN.out⟩)⟩
                  · have P := hid_of (MISS.out (fun t => by rcases t with t | t; exact hr0 t; exact hrp t.1))
                    have qp : decide (0 < r) = false := decide_eq_false hrp
                    clear HIT MISS hr0
                    go_wp2_with (go_at_call 53; refine (must_no _).mono ?_; rintro e w' ⟨rfl, rfl⟩)
                    exact ⟨rfl, .inr (.inr ⟨COS.out, P.out, rfl, HK6.out.trans KN.out⟩)⟩
                · obtain rfl : q = j := by omega
                  have P : Hid (RoundOk es mp q ts q pot mp) := ⟨TOK.out, EVEN.out, HOK.out, POK.out, HNO.out⟩
                  have hv4 := (HK6.out.trans K).cell hv
                  have CC := hid_of (costOf_calls (mp : Int) ao mp q cap es bo bc ts wr (HE.out.kept (HK6.out.trans K)) (HJ.out.kept (HK6.out.trans K)) RGH.out SM.out)
                  replace g0 := K.cell g0
                  replace g1 := K.cell g1
                  have HK7 := hid_of (HK6.out.trans K)
                  clear CR HNO K f1
                  go_wp2_with fail
                  refine CC.out.mono ?_
                  rintro e w6 ⟨rfl, K8⟩
                  replace hv4 := K8.cell hv4
                  have HK8 := hid_of (HK7.out.trans K8)
                  have hvf5 := (Below.frozen (p := ⟨vb, 0, none⟩) HK8.out (lt_cell hv)).trans hvf
                  clear HK7 K8 CC g0 g1 f0
                  go_wp2
                  exact bodyPost_end (v := .tuple #[]) (by simp [results, Try.results71]) rfl (.inl ⟨COS.out, P.out, rfl, _, HK8.out, rfl⟩)
end Go.Proofs.Ytomopfjaebcpeaa

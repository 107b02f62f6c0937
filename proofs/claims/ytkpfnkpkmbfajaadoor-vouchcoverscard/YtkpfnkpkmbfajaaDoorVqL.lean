/- The document's Pots, Has, Covers. -/
import Derived.Test.YtkpfnkpkmbfajaaDoorVqE
namespace Go.Proofs.YtkpfnkpkmbfajaaDoor
open Go.RowKit

set_option maxRecDepth 100000 in
set_option linter.unusedSimpArgs false in
set_option maxHeartbeats 2000000 in
theorem potsR_calls (N : Nat) (s : Value) (bo : Option Addr) (m bc : Nat) (pot : List Int) (w : World) (hJ : JRow w bo m bc pot) :
    Calls Tryd.prog 60 #[.agg #[.int .i64 (N : Int), s], .slice bo m bc] w fun e w' => Kept w w' ∧ ((PotsOk pot m N ∧ e = .returned (.bool true)) ∨ (¬ PotsOk pot m N ∧ e = .returned (.bool false))) := by
  have hr2 := hJ.room
  have hm2 := hJ.most
  unfold maxLen at hm2
  have KW : Kept w (w.alloc (Obj.cells #[.int .i64 (N : Int), s] 24)) := (Kept.refl w).alloc _
  have w0 : (w.alloc (Obj.cells #[.int .i64 (N : Int), s] 24)).cell? ⟨w.heap.size, 0, none⟩ = some (.int .i64 (N : Int)) := by simp [go_sem]
  have HJ := hid_of (hJ.kept KW)
  clear hJ
  by_cases hmn : m = N
  rotate_left
  · have q : ((m : Int) != (N : Int)) = true := by simp; omega
    go_enter Tryd.func60, Tryd.ntmps60
    go_wp2
    go_ret
    exact ⟨KW, .inr ⟨fun t => hmn t.1, rfl⟩⟩
  subst hmn
  have q : ((m : Int) != (m : Int)) = false := by simp
  go_enter Tryd.func60, Tryd.ntmps60
  go_wp2_with fail
  generalize w.alloc (Obj.cells #[.int .i64 (m : Int), s] 24) = W1 at KW HJ w0 ⊢
  go_loopw [5] (fun i wr => ∃ (k : Nat), k ≤ m ∧ i = .int .i64 k ∧ W1 = wr ∧ ∀ j, j < k → -4398046511104 ≤ zAt pot j ∧ zAt pot j ≤ 4398046511104) (fun i _ => m - (intOf i).toNat)
  case atStart => exact ⟨0, by omega, rfl, rfl, fun i hi => by omega⟩
  case round =>
    obtain ⟨k, hk, rfl, rfl, hno⟩ := hrel
    have HNO := hid_of hno
    clear hno
    by_cases hgo : (k : Int) < (m : Int)
    · obtain ⟨b2, off2, rfl, hc2⟩ := HJ.out.at (by omega)
      have d5 := hc2 k (by omega)
      clear hc2
      have HIT : Hid ((-4398046511104 ≤ zAt pot k ∧ zAt pot k ≤ 4398046511104) → ∀ j, j < k + 1 → -4398046511104 ≤ zAt pot j ∧ zAt pot j ≤ 4398046511104) := fun hb i hi => by
        by_cases e : i = k
        · subst e; exact hb
        · exact HNO.out i (by omega)
      have MISS : Hid (¬ (-4398046511104 ≤ zAt pot k ∧ zAt pot k ≤ 4398046511104) → ¬ PotsOk pot m m) := fun hb t => hb (t.2 k (by omega))
      generalize zAt pot k = x at d5 HIT MISS
      clear HJ
      by_cases hx : -4398046511104 ≤ x
      · have g1 : decide (x < -4398046511104) = false := by simpa using hx
        by_cases hy : x ≤ 4398046511104
        · have g2 : decide (4398046511104 < x) = false := by simpa using hy
          have P := hid_of (HIT.out ⟨hx, hy⟩)
          clear HIT MISS
          go_wp2_with fail
          go_roundw
          case rel => exact ⟨k + 1, by omega, by go_num, by trivial, P.out⟩
          case measure => simp [intOf]; omega
        · have g2 : decide (4398046511104 < x) = true := by simp; omega
          have P := hid_of (MISS.out (fun t => hy t.2))
          clear HIT MISS
          go_wp2_with fail
          go_ret
          exact ⟨KW, .inr ⟨P.out, rfl⟩⟩
      · have g1 : decide (x < -4398046511104) = true := by simp; omega
        have P := hid_of (MISS.out (fun t => hx t.1))
        clear HIT MISS
        go_wp2_with fail
        go_ret
        exact ⟨KW, .inr ⟨P.out, rfl⟩⟩
    · obtain rfl : k = m := by omega
      go_wp2_with fail
      go_ret
      exact ⟨KW, .inl ⟨⟨rfl, HNO.out⟩, rfl⟩⟩

set_option maxRecDepth 100000 in
set_option linter.unusedSimpArgs false in
set_option maxHeartbeats 2000000 in
theorem hasR_calls (co : Option Addr) (L cc : Nat) (c : List Int) (v : Nat) (b : Bool) (hb : Hid (inTo c L v = b)) (w : World) (hJ : JRow w co L cc c) :
    Calls Tryd.prog 96 #[.slice co L cc, .int .i64 (v : Int)] w fun r w' => r = .returned (.bool b) ∧ Kept w w' := by
  have hr2 := hJ.room
  have hm2 := hJ.most
  unfold maxLen at hm2
  have HJ := hid_of hJ
  clear hJ
  go_enter Tryd.func96, Tryd.ntmps96
  go_wp2_with fail
  go_loopw [5] (fun i wr => ∃ (k : Nat), k ≤ L ∧ i = .int .i64 k ∧ w = wr ∧ ∀ j, j < k → ¬ zAt c j = (v : Int)) (fun i _ => L - (intOf i).toNat)
  case atStart => exact ⟨0, by omega, rfl, rfl, fun i hi => by omega⟩
  case round =>
    obtain ⟨k, hk, rfl, rfl, hno⟩ := hrel
    have HNO := hid_of hno
    clear hno
    by_cases hgo : (k : Int) < (L : Int)
    · obtain ⟨b2, off2, rfl, hc⟩ := HJ.out.at (by omega)
      have d := hc k (by omega)
      have HIT : Hid (¬ zAt c k = (v : Int) → ∀ j, j < k + 1 → ¬ zAt c j = (v : Int)) := fun hb i hi => by
        by_cases e : i = k
        · subst e; exact hb
        · exact HNO.out i (by omega)
      have YES : Hid (zAt c k = (v : Int) → b = true) := fun t => by rw [← hb.out]; exact inTo_iff.2 ⟨k, by omega, t⟩
      generalize zAt c k = x at d HIT YES
      clear hc
      by_cases hx : x = (v : Int)
      · have q : (x == (v : Int)) = true := by rw [beq_iff_eq]; exact hx
        have P := hid_of (YES.out hx)
        clear HIT YES hx
        go_wp2
        go_ret
        exact ⟨by rw [P.out]; rfl, Kept.refl _⟩
      · have q : (x == (v : Int)) = false := by rw [beq_eq_false_iff_ne]; exact hx
        have P := hid_of (HIT.out hx)
        clear HIT YES
        go_wp2_with fail
        go_roundw
        case rel => exact ⟨k + 1, by omega, by go_num, by trivial, P.out⟩
        case measure => simp [intOf]; omega
    · obtain rfl : k = L := by omega
      have P : Hid (b = false) := by
        show b = false
        rw [← hb.out]
        cases e : inTo c k v with
        | false => rfl
        | true =>
          obtain ⟨j, hj, t⟩ := inTo_iff.1 e
          exact absurd t (HNO.out j hj)
      go_wp2
      go_ret
      exact ⟨by rw [P.out]; rfl, Kept.refl _⟩

set_option maxRecDepth 100000 in
set_option linter.unusedSimpArgs false in
set_option maxHeartbeats 4000000 in
theorem coversR_calls (N : Nat) (ao : Option Addr) (n cap : Nat) (es : List Ed) (co : Option Addr) (L cc : Nat) (c : List Int) (w : World) (h : ERow w ao n cap es) (hJ : JRow w co L cc c) (RG : Right N n es) :
    Calls Tryd.prog 55 #[.agg #[.int .i64 (N : Int), .slice ao n cap], .slice co L cc] w fun r w' => Kept w w' ∧ (((∀ i, i < n → CovE es c L i) ∧ r = .returned (.bool true)) ∨ (¬ (∀ i, i < n → CovE es c L i) ∧ r = .returned (.bool false))) := by
  have hr1 := h.room
  have hm1 := h.most
  unfold maxLen at hm1
  have hn := RG.edges
  have KW : Kept w (w.alloc (Obj.cells #[.int .i64 (N : Int), .slice ao n cap] 24)) := (Kept.refl w).alloc _
  have w1 : (w.alloc (Obj.cells #[.int .i64 (N : Int), .slice ao n cap] 24)).cell? ⟨w.heap.size, 1, none⟩ = some (.slice ao n cap) := by simp [go_sem]
  have HE := hid_of h
  have HJ := hid_of hJ
  have RGH := hid_of RG
  clear h hJ RG
  have hnot : ∀ (x : Bool) (w : World), (Op.unary .not (.bool x)).run Tryd.prog w = .ok (.bool (!x)) w := fun _ _ => rfl
  go_enter Tryd.func55, Tryd.ntmps55
  go_wp2_with fail
  generalize w.alloc (Obj.cells #[.int .i64 (N : Int), .slice ao n cap] 24) = W1 at KW w1 ⊢
  have W1H := hid_of w1
  have KWH := hid_of KW
  clear KW w1
  go_loopw [5, 6] (fun i _ wr => ∃ (k : Nat), k ≤ n ∧ i = .int .i64 k ∧ Kept W1 wr ∧ ∀ j, j < k → CovE es c L j) (fun i _ _ => n - (intOf i).toNat)
  case atStart => exact ⟨0, by omega, rfl, Kept.refl _, fun i hi => by omega⟩
  case round =>
    obtain ⟨k, hk, rfl, K, hno⟩ := hrel
    have HNO := hid_of hno
    have KH := hid_of K
    have w1 := K.cell W1H.out
    clear hno
    by_cases hgo : (k : Int) < (n : Int)
    · obtain ⟨b2, off2, rfl, hc⟩ := (HE.out.kept (KWH.out.trans K)).cell (by omega)
      obtain ⟨d1, d2, d3, d4⟩ := hc k (by omega)
      obtain ⟨e1, e2, e3, e4⟩ := RGH.out.ends k (by omega)
      have HIT : Hid (CovE es c L k → ∀ j, j < k + 1 → CovE es c L j) := fun hb i hi => by
        by_cases e : i = k
        · subst e; exact hb
        · exact HNO.out i (by omega)
      have MISS : Hid (¬ CovE es c L k → ¬ ∀ j, j < n → CovE es c L j) := fun hb t => hb (t k (by omega))
      unfold CovE lp at HIT MISS
      generalize edAt es k = e at d1 d2 d3 d4 e1 e2 e3 e4 HIT MISS
      obtain ⟨ef, et, ec, ek⟩ := e
      simp only at d1 d2 d3 d4 e1 e2 e3 e4 HIT MISS
      obtain ⟨f, rfl⟩ : ∃ f : Nat, ef = (f : Int) := ⟨ef.toNat, by omega⟩
      obtain ⟨t, rfl⟩ : ∃ t : Nat, et = (t : Int) := ⟨et.toNat, by omega⟩
      simp only [Int.toNat_natCast] at HIT MISS
      clear hc K
      go_upto_region 5 with fail
      generalize hW : wr.alloc (Obj.cells #[.int .i64 (f : Int), .int .i64 (t : Int), .int .i64 ec, .int .i64 ek] 86) = W3
      obtain ⟨EK, a0, a1, a2, a3, -⟩ := edge_box hW
      have K3 := hid_of (KH.out.trans EK)
      clear d1 d2 d3 d4 EK KH hW a2 a3 w1
      obtain ⟨bf, hbf⟩ : ∃ b, inTo c L f = b := ⟨_, rfl⟩
      obtain ⟨bt, hbt⟩ : ∃ b, inTo c L t = b := ⟨_, rfl⟩
      have CF := hid_of (fun w' (K' : Kept W1 w') => hasR_calls co L cc c f bf (hid_of hbf) w' (HJ.out.kept (KWH.out.trans K')))
      have CT := hid_of (fun w' (K' : Kept W1 w') => hasR_calls co L cc c t bt (hid_of hbt) w' (HJ.out.kept (KWH.out.trans K')))
      rw [hbf, hbt] at HIT MISS
      clear hbf hbt
      by_cases hft : f = t
      · have q : ((f : Int) != (t : Int)) = false := by simp; omega
        have P := hid_of (HIT.out (.inl (by rw [beq_iff_eq]; omega)))
        clear HIT MISS
        go_wp2_with fail
        go_roundw
        case rel => exact ⟨k + 1, by omega, by go_num, K3.out, P.out⟩
        case measure => simp [intOf]; omega
      have q : ((f : Int) != (t : Int)) = true := by simp; omega
      have q' : ¬ ((f : Int) == (t : Int)) = true := by rw [beq_iff_eq]; omega
      cases bf with
      | true =>
        have P := hid_of (HIT.out (.inr (.inl rfl)))
        clear HIT MISS q'
        go_wp2_with fail
        refine (CF.out _ K3.out).mono ?_
        rintro r w5 ⟨rfl, K5⟩
        have K5H := hid_of (K3.out.trans K5)
        clear K5 CF CT a0 a1
        go_wp2_with fail
        go_roundw
        case rel => exact ⟨k + 1, by omega, by go_num, K5H.out, P.out⟩
        case measure => simp [intOf]; omega
      | false =>
        have HT : Hid (bt = true → ∀ j, j < k + 1 → CovE es c L j) := fun u => HIT.out (.inr (.inr u))
        have MT : Hid (bt = false → ¬ ∀ j, j < n → CovE es c L j) := fun u => MISS.out (fun r => by
          rcases r with r | r | r
          · exact q' r
          · cases r
          · rw [u] at r; cases r)
        clear HIT MISS q'
        go_wp2_with fail
        refine (CF.out _ K3.out).mono ?_
        rintro r w5 ⟨rfl, K5⟩
        have K5H := hid_of (K3.out.trans K5)
        replace a0 := K5.cell a0
        replace a1 := K5.cell a1
        clear K5 CF
        cases bt with
        | true =>
          have P := hid_of (HT.out rfl)
          clear HT MT
          go_wp2_with fail
          refine (CT.out _ K5H.out).mono ?_
          rintro r w6 ⟨rfl, K6⟩
          have K6H := hid_of (K5H.out.trans K6)
          clear K6 CT a0 a1
          go_wp2_with fail
          go_roundw
          case rel => exact ⟨k + 1, by omega, by go_num, K6H.out, P.out⟩
          case measure => simp [intOf]; omega
        | false =>
          have P := hid_of (MT.out rfl)
          clear HT MT
          go_wp2_with fail
          refine (CT.out _ K5H.out).mono ?_
          rintro r w6 ⟨rfl, K6⟩
          have K6H := hid_of (KWH.out.trans (K5H.out.trans K6))
          clear K6 CT a0 a1
          go_wp2
          go_ret
          exact ⟨K6H.out, .inr ⟨P.out, rfl⟩⟩
    · obtain rfl : k = n := by omega
      clear K
      go_wp2
      go_ret
      exact ⟨KWH.out.trans KH.out, .inl ⟨HNO.out, rfl⟩⟩
end Go.Proofs.YtkpfnkpkmbfajaaDoor

/- One text of VqL, VqM, VqN. -/
import Derived.Test.YtpdppjngbbkbbaaDoorVmA
namespace Go.Proofs.YtpdppjngbbkbbaaDoor
open Go.RowKit

set_option maxRecDepth 100000 in
set_option linter.unusedSimpArgs false in
set_option maxHeartbeats 2000000 in
theorem potsR_calls (N : Nat) (s : Value) (bo : Option Addr) (m bc : Nat) (pot : List Int) (w : World) (hJ : JRow w bo m bc pot) :
    Calls Tryd.prog 60 #[.agg #[.int .i64 (N : Int), s], .slice bo m bc] w fun e w' => Kept w w' ∧ ((PotsOk pot m N ∧ e = .returned (.bool true)) ∨ (¬ PotsOk pot m N ∧ e = .returned (.bool false))) := by
  have hr2 := hJ.room
  have hm2 := hJ.most
  unfold maxLen at hm2
  have KW : Kept w (w.alloc (Obj.cells #[.int .i64 (N : Int), s] 24)) := (Kept.refl w).alloc _
  have w0 : (w.alloc (Obj.cells #[.int .i64 (N : Int), s] 24)).cell? ⟨w.heap.size, 0, none⟩ = some (.int .i64 (N : Int)) := by simp [go_sem]
  have HJ := hid_of (hJ.kept KW)
  clear hJ
  by_cases hmn : m = N
  rotate_left
  · have q : ((m : Int) != (N : Int)) = true := by simp; omega
    go_enter Tryd.func60, Tryd.ntmps60
    go_wp2
    go_ret
    exact ⟨KW, .inr ⟨fun t => hmn t.1, rfl⟩⟩
  subst hmn
  have q : ((m : Int) != (m : Int)) = false := by simp
  go_enter Tryd.func60, Tryd.ntmps60
  go_wp2_with fail
  generalize w.alloc (Obj.cells #[.int .i64 (m : Int), s] 24) = W1 at KW HJ w0 ⊢
  go_loopw [5] (fun i wr => ∃ (k : Nat), k ≤ m ∧ i = .int .i64 k ∧ W1 = wr ∧ ∀ j, j < k → -4398046511104 ≤ zAt pot j ∧ zAt pot j ≤ 4398046511104) (fun i _ => m - (intOf i).toNat)
  case atStart => exact ⟨0, by omega, rfl, rfl, fun i hi => by omega⟩
  case round =>
    obtain ⟨k, hk, rfl, rfl, hno⟩ := hrel
    have HNO := hid_of hno
    clear hno
    by_cases hgo : (k : Int) < (m : Int)
    · obtain ⟨b2, off2, rfl, hc2⟩ := HJ.out.at (by omega)
      have d5 := hc2 k (by omega)
      clear hc2
      have HIT : Hid ((-4398046511104 ≤ zAt pot k ∧ zAt pot k ≤ 4398046511104) → ∀ j, j < k + 1 → -4398046511104 ≤ zAt pot j ∧ zAt pot j ≤ 4398046511104) := fun hb i hi => by
        by_cases e : i = k
        · subst e; exact hb
        · exact HNO.out i (by omega)
      have MISS : Hid (¬ (-4398046511104 ≤ zAt pot k ∧ zAt pot k ≤ 4398046511104) → ¬ PotsOk pot m m) := fun hb t => hb (t.2 k (by omega))
      generalize zAt pot k = x at d5 HIT MISS
      clear HJ
      by_cases hx : -4398046511104 ≤ x
      · have g1 : decide (x < -4398046511104) = false := by simpa using hx
        by_cases hy : x ≤ 4398046511104
        · have g2 : decide (4398046511104 < x) = false := by simpa using hy
          have P := hid_of (HIT.out ⟨hx, hy⟩)
          clear HIT MISS
          go_wp2_with fail
          go_roundw
          case rel => exact ⟨k + 1, by omega, by go_num, by trivial, P.out⟩
          case measure => simp [intOf]; omega
        · have g2 : decide (4398046511104 < x) = true := by simp; omega
          have P := hid_of (MISS.out (fun t => hy t.2))
          clear HIT MISS
          go_wp2_with fail
          go_ret
          exact ⟨KW, .inr ⟨P.out, rfl⟩⟩
      · have g1 : decide (x < -4398046511104) = true := by simp; omega
        have P := hid_of (MISS.out (fun t => hx t.1))
        clear HIT MISS
        go_wp2_with fail
        go_ret
        exact ⟨KW, .inr ⟨P.out, rfl⟩⟩
    · obtain rfl : k = m := by omega
      go_wp2_with fail
      go_ret
      exact ⟨KW, .inl ⟨⟨rfl, HNO.out⟩, rfl⟩⟩

set_option maxRecDepth 100000 in
set_option linter.unusedSimpArgs false in
set_option maxHeartbeats 2000000 in
theorem hasR_calls (co : Option Addr) (L cc : Nat) (c : List Int) (v : Nat) (b : Bool) (hb : Hid (inTo c L v = b)) (w : World) (hJ : JRow w co L cc c) :
    Calls Tryd.prog 96 #[.slice co L cc, .int .i64 (v : Int)] w fun r w' => r = .returned (.bool b) ∧ Kept w w' := by
  have hr2 := hJ.room
  have hm2 := hJ.most
  unfold maxLen at hm2
  have HJ := hid_of hJ
  clear hJ
  go_enter Tryd.func96, Tryd.ntmps96
  go_wp2_with fail
  go_loopw [5] (fun i wr => ∃ (k : Nat), k ≤ L ∧ i = .int .i64 k ∧ w = wr ∧ ∀ j, j < k → ¬ zAt c j = (v : Int)) (fun i _ => L - (intOf i).toNat)
  case atStart => exact ⟨0, by omega, rfl, rfl, fun i hi => by omega⟩
  case round =>
    obtain ⟨k, hk, rfl, rfl, hno⟩ := hrel
    have HNO := hid_of hno
    clear hno
    by_cases hgo : (k : Int) < (L : Int)
    · obtain ⟨b2, off2, rfl, hc⟩ := HJ.out.at (by omega)
      have d := hc k (by omega)
      have HIT : Hid (¬ zAt c k = (v : Int) → ∀ j, j < k + 1 → ¬ zAt c j = (v : Int)) := fun hb i hi => by
        by_cases e : i = k
        · subst e; exact hb
        · exact HNO.out i (by omega)
      have YES : Hid (zAt c k = (v : Int) → b = true) := fun t => by rw [← hb.out]; exact inTo_iff.2 ⟨k, by omega, t⟩
      generalize zAt c k = x at d HIT YES
      clear hc
      by_cases hx : x = (v : Int)
      · have q : (x == (v : Int)) = true := by rw [beq_iff_eq]; exact hx
        have P := hid_of (YES.out hx)
        clear HIT YES hx
        go_wp2
        go_ret
        exact ⟨by rw [P.out]; rfl, Kept.refl _⟩
      · have q : (x == (v : Int)) = false := by rw [beq_eq_false_iff_ne]; exact hx
        have P := hid_of (HIT.out hx)
        clear HIT YES
        go_wp2_with fail
        go_roundw
        case rel => exact ⟨k + 1, by omega, by go_num, by trivial, P.out⟩
        case measure => simp [intOf]; omega
    · obtain rfl : k = L := by omega
      have P : Hid (b = false) := by
        show b = false
        rw [← hb.out]
        cases e : inTo c k v with
        | false => rfl
        | true =>
          obtain ⟨j, hj, t⟩ := inTo_iff.1 e
          exact absurd t (HNO.out j hj)
      go_wp2
      go_ret
      exact ⟨by rw [P.out]; rfl, Kept.refl _⟩

set_option maxRecDepth 100000 in
set_option linter.unusedSimpArgs false in
set_option maxHeartbeats 4000000 in
theorem coversR_calls (N : Nat) (ao : Option Addr) (n cap : Nat) (es : List Ed) (co : Option Addr) (L cc : Nat) (c : List Int) (w : World) (h : ERow w ao n cap es) (hJ : JRow w co L cc c) (RG : Right N n es) :
    Calls Tryd.prog 55 #[.agg #[.int .i64 (N : Int), .slice ao n cap], .slice co L cc] w fun r w' => Kept w w' ∧ (((∀ i, i < n → CovE es c L i) ∧ r = .returned (.bool true)) ∨ (¬ (∀ i, i < n → CovE es c L i) ∧ r = .returned (.bool false))) := by
  have hr1 := h.room
  have hm1 := h.most
  unfold maxLen at hm1
  have hn := RG.edges
  have KW : Kept w (w.alloc (Obj.cells #[.int .i64 (N : Int), .slice ao n cap] 24)) := (Kept.refl w).alloc _
  have w1 : (w.alloc (Obj.cells #[.int .i64 (N : Int), .slice ao n cap] 24)).cell? ⟨w.heap.size, 1, none⟩ = some (.slice ao n cap) := by simp [go_sem]
  have HE := hid_of h
  have HJ := hid_of hJ
  have RGH := hid_of RG
  clear h hJ RG
  have hnot : ∀ (x : Bool) (w : World), (Op.unary .not (.bool x)).run Tryd.prog w = .ok (.bool (!x)) w := fun _ _ => rfl
  go_enter Tryd.func55, Tryd.ntmps55
  go_wp2_with fail
  generalize w.alloc (Obj.cells #[.int .i64 (N : Int), .slice ao n cap] 24) = W1 at KW w1 ⊢
  have W1H := hid_of w1
  have KWH := hid_of KW
  clear KW w1
  go_loopw [5, 6] (fun i _ wr => ∃ (k : Nat), k ≤ n ∧ i = .int .i64 k ∧ Kept W1 wr ∧ ∀ j, j < k → CovE es c L j) (fun i _ _ => n - (intOf i).toNat)
  case atStart => exact ⟨0, by omega, rfl, Kept.refl _, fun i hi => by omega⟩
  case round =>
    obtain ⟨k, hk, rfl, K, hno⟩ := hrel
    have HNO := hid_of hno
    have KH := hid_of K
    have w1 := K.cell W1H.out
    clear hno
    by_cases hgo : (k : Int) < (n : Int)
    · obtain ⟨b2, off2, rfl, hc⟩ := (HE.out.kept (KWH.out.trans K)).cell (by omega)
      obtain ⟨d1, d2, d3, d4⟩ := hc k (by omega)
      obtain ⟨e1, e2, e3, e4⟩ := RGH.out.ends k (by omega)
      have HIT : Hid (CovE es c L k → ∀ j, j < k + 1 → CovE es c L j) := fun hb i hi => by
        by_cases e : i = k
        · subst e; exact hb
        · exact HNO.out i (by omega)
      have MISS : Hid (¬ CovE es c L k → ¬ ∀ j, j < n → CovE es c L j) := fun hb t => hb (t k (by omega))
      unfold CovE lp at HIT MISS
      generalize edAt es k = e at d1 d2 d3 d4 e1 e2 e3 e4 HIT MISS
      obtain ⟨ef, et, ec, ek⟩ := e
      simp only at d1 d2 d3 d4 e1 e2 e3 e4 HIT MISS
      obtain ⟨f, rfl⟩ : ∃ f : Nat, ef = (f : Int) := ⟨ef.toNat, by omega⟩
      obtain ⟨t, rfl⟩ : ∃ t : Nat, et = (t : Int) := ⟨et.toNat, by omega⟩
      simp only [Int.toNat_natCast] at HIT MISS
      clear hc K
      go_upto_region 5 with fail
      generalize hW : wr.alloc (Obj.cells #[.int .i64 (f : Int), .int .i64 (t : Int), .int .i64 ec, .int .i64 ek] 86) = W3
      obtain ⟨EK, a0, a1, a2, a3, -⟩ := edge_box hW
      have K3 := hid_of (KH.out.trans EK)
      clear d1 d2 d3 d4 EK KH hW a2 a3 w1
      obtain ⟨bf, hbf⟩ : ∃ b, inTo c L f = b := ⟨_, rfl⟩
      obtain ⟨bt, hbt⟩ : ∃ b, inTo c L t = b := ⟨_, rfl⟩
      have CF := hid_of (fun w' (K' : Kept W1 w') => hasR_calls co L cc c f bf (hid_of hbf) w' (HJ.out.kept (KWH.out.trans K')))
      have CT := hid_of (fun w' (K' : Kept W1 w') => hasR_calls co L cc c t bt (hid_of hbt) w' (HJ.out.kept (KWH.out.trans K')))
      rw [hbf, hbt] at HIT MISS
      clear hbf hbt
      by_cases hft : f = t
      · have q : ((f : Int) != (t : Int)) = false := by simp; omega
        have P := hid_of (HIT.out (.inl (by rw [beq_iff_eq]; omega)))
        clear HIT MISS
        go_wp2_with fail
        go_roundw
        case rel => exact ⟨k + 1, by omega, by go_num, K3.out, P.out⟩
        case measure => simp [intOf]; omega
      have q : ((f : Int) != (t : Int)) = true := by simp; omega
      have q' : ¬ ((f : Int) == (t : Int)) = true := by rw [beq_iff_eq]; omega
      cases bf with
      | true =>
        have P := hid_of (HIT.out (.inr (.inl rfl)))
        clear HIT MISS q'
        go_wp2_with fail
        refine (CF.out _ K3.out).mono ?_
        rintro r w5 ⟨rfl, K5⟩
        have K5H := hid_of (K3.out.trans K5)
        clear K5 CF CT a0 a1
        go_wp2_with fail
        go_roundw
        case rel => exact ⟨k + 1, by omega, by go_num, K5H.out, P.out⟩
        case measure => simp [intOf]; omega
      | false =>
        have HT : Hid (bt = true → ∀ j, j < k + 1 → CovE es c L j) := fun u => HIT.out (.inr (.inr u))
        have MT : Hid (bt = false → ¬ ∀ j, j < n → CovE es c L j) := fun u => MISS.out (fun r => by
          rcases r with r | r | r
          · exact q' r
          · cases r
          · rw [u] at r; cases r)
        clear HIT MISS q'
        go_wp2_with fail
        refine (CF.out _ K3.out).mono ?_
        rintro r w5 ⟨rfl, K5⟩
        have K5H := hid_of (K3.out.trans K5)
        replace a0 := K5.cell a0
        replace a1 := K5.cell a1
        clear K5 CF
        cases bt with
        | true =>
          have P := hid_of (HT.out rfl)
          clear HT MT
          go_wp2_with fail
          refine (CT.out _ K5H.out).mono ?_
          rintro r w6 ⟨rfl, K6⟩
          have K6H := hid_of (K5H.out.trans K6)
          clear K6 CT a0 a1
          go_wp2_with fail
          go_roundw
          case rel => exact ⟨k + 1, by omega, by go_num, K6H.out, P.out⟩
          case measure => simp [intOf]; omega
        | false =>
          have P := hid_of (MT.out rfl)
          clear HT MT
          go_wp2_with fail
          refine (CT.out _ K5H.out).mono ?_
          rintro r w6 ⟨rfl, K6⟩
          have K6H := hid_of (KWH.out.trans (K5H.out.trans K6))
          clear K6 CT a0 a1
          go_wp2
          go_ret
          exact ⟨K6H.out, .inr ⟨P.out, rfl⟩⟩
    · obtain rfl : k = n := by omega
      clear K
      go_wp2
      go_ret
      exact ⟨KWH.out.trans KH.out, .inl ⟨HNO.out, rfl⟩⟩
end Go.Proofs.YtpdppjngbbkbbaaDoor
namespace Go.Proofs.YtpdppjngbbkbbaaDoor
open Go.RowKit

theorem covAns_mat {nodes : Int} {es : List Ed} {n : Nat} {m : List Int} {lm : Nat} {x : List Int} {lx : Nat} (h : matAns nodes es n m lm ≠ 0) : covAns nodes es n m lm x lx = (0, matAns nodes es n m lm) := by
  unfold matAns at h ⊢
  unfold covAns
  split
  · rfl
  · rename_i t
    rw [if_neg t] at h
    split at h
    · omega
    · rename_i u
      rw [if_neg (fun v => u v.1), if_neg u]
theorem hvyAns_mat {nodes : Int} {es : List Ed} {n : Nat} {m : List Int} {lm : Nat} {x : List Int} {lx : Nat} (h : matAns nodes es n m lm ≠ 0) : hvyAns nodes es n m lm x lx = (0, matAns nodes es n m lm) := by
  unfold matAns at h ⊢
  unfold hvyAns
  split
  · rfl
  · rename_i t
    rw [if_neg t] at h
    split at h
    · omega
    · rename_i u
      rw [if_neg (fun v => u v.1), if_neg u]

set_option maxRecDepth 100000 in
set_option linter.unusedSimpArgs false in
set_option maxHeartbeats 4000000 in
theorem coveredR_calls (nodes : Int) (ao : Option Addr) (n cap : Nat) (es : List Ed) (mo : Option Addr) (lm mc : Nat) (m : List Int) (xo : Option Addr) (lx xc : Nat) (x : List Int) (w : World) (h : ERow w ao n cap es) (hJ : JRow w mo lm mc m) (hX : JRow w xo lx xc x) (v code : Int) (hans : Hid (covAns nodes es n m lm x lx = (v, code))) :
    Calls Tryd.prog 18 #[.agg #[.int .i64 nodes, .slice ao n cap], .slice mo lm mc, .slice xo lx xc] w fun e w' => e = .returned (.tuple #[.int .i64 v, .int .i64 code]) ∧ Kept w w' := by
  have hnot : ∀ (x : Bool) (w : World), (Op.unary .not (.bool x)).run Tryd.prog w = .ok (.bool (!x)) w := fun _ _ => rfl
  obtain ⟨z, A3⟩ : ∃ z, matAns nodes es n m lm = z := ⟨_, rfl⟩
  have hr1 := hJ.room
  have hm1 := hJ.most
  have hr2 := hX.room
  have hm2 := hX.most
  unfold maxLen at hm1 hm2
  have KW : Kept w (w.alloc (Obj.cells #[.int .i64 nodes, .slice ao n cap] 24)) := (Kept.refl w).alloc _
  have w0 : (w.alloc (Obj.cells #[.int .i64 nodes, .slice ao n cap] 24)).cell? ⟨w.heap.size, 0, none⟩ = some (.int .i64 nodes) := by simp [go_sem]
  have w1 : (w.alloc (Obj.cells #[.int .i64 nodes, .slice ao n cap] 24)).cell? ⟨w.heap.size, 1, none⟩ = some (.slice ao n cap) := by simp [go_sem]
  have HE := hid_of h
  have HJ := hid_of hJ
  have HX := hid_of hX
  have HA3 := hid_of A3
  clear h hJ hX A3
  go_enter Tryd.func18, Tryd.ntmps18
  go_wp2_with fail
  generalize w.alloc (Obj.cells #[.int .i64 nodes, .slice ao n cap] 24) = W1 at KW w0 w1 ⊢
  refine (matchingR_calls nodes ao n cap es mo lm mc m W1 (HE.out.kept KW) (HJ.out.kept KW) z HA3).mono ?_
  rintro e wa ⟨rfl, K1⟩
  have K := hid_of (KW.trans K1)
  replace w0 := K1.cell w0
  replace w1 := K1.cell w1
  clear K1 KW
  by_cases hz : z = 0
  rotate_left
  · have e := hans.out
    rw [covAns_mat (by rw [HA3.out]; exact hz), HA3.out] at e
    obtain ⟨rfl, rfl⟩ := Prod.mk.inj e
    have q : (z != 0) = true := by simpa using hz
    clear hz e hans HA3 w0 w1
    go_wp2
    go_ret2
    exact ⟨rfl, K.out⟩
  subst hz
  obtain ⟨hf, MOK⟩ := matAns_ok HA3.out
  obtain ⟨N, rfl, RG⟩ := right_of (fault_zero hf)
  rw [← HE.out.len] at RG
  have RGH := hid_of RG
  have MH := hid_of MOK
  have ANS : Hid ((CovOk es N n m lm x lx → v = (lm : Int) ∧ code = 0) ∧ (¬ CovOk es N n m lm x lx → v = 0 ∧ code = 221)) := by
    have e := hans.out
    unfold covAns at e
    rw [if_neg (by simp [hf]), Int.toNat_natCast] at e
    refine ⟨fun t => ?_, fun t => ?_⟩
    · rw [if_pos t] at e
      obtain ⟨rfl, rfl⟩ := Prod.mk.inj e
      exact ⟨rfl, rfl⟩
    · rw [if_neg t] at e
      obtain ⟨rfl, rfl⟩ := Prod.mk.inj e
      exact ⟨rfl, rfl⟩
  clear hans hf MOK RG HA3
  go_wp2_with fail
  refine (risingR_calls xo lx xc x (N : Int) wa (HX.out.kept K.out)).mono ?_
  rintro e wb ⟨K2, ⟨ris, rfl⟩ | ⟨ris, rfl⟩⟩
  rotate_left
  · obtain ⟨rfl, rfl⟩ := ANS.out.2 (fun t => ris t.2.1)
    replace K := hid_of (K.out.trans K2)
    clear K2 w0 w1 ris ANS
    go_wp2
    go_ret2
    exact ⟨rfl, K.out⟩
  replace K := hid_of (K.out.trans K2)
  replace w0 := K2.cell w0
  replace w1 := K2.cell w1
  have RIS := hid_of ris
  clear K2 ris
  go_wp2_with fail
  refine (coversR_calls N ao n cap es xo lx xc x wb (HE.out.kept K.out) (HX.out.kept K.out) RGH.out).mono ?_
  rintro e wc ⟨K2, ⟨cov, rfl⟩ | ⟨cov, rfl⟩⟩
  rotate_left
  · obtain ⟨rfl, rfl⟩ := ANS.out.2 (fun t => cov t.2.2.2)
    replace K := hid_of (K.out.trans K2)
    clear K2 w0 w1 cov ANS
    go_wp2
    go_ret2
    exact ⟨rfl, K.out⟩
  replace K := hid_of (K.out.trans K2)
  have COV := hid_of cov
  clear K2 cov w0 w1
  by_cases hl : lm = lx
  · obtain ⟨rfl, rfl⟩ := ANS.out.1 ⟨MH.out, RIS.out, hl.symm, COV.out⟩
    have q : ((lm : Int) != (lx : Int)) = false := by simp; omega
    clear ANS hl
    go_wp2
    go_ret2
    exact ⟨rfl, K.out⟩
  · obtain ⟨rfl, rfl⟩ := ANS.out.2 (fun t => hl t.2.2.1.symm)
    have q : ((lm : Int) != (lx : Int)) = true := by simp; omega
    clear ANS
    go_wp2
    go_ret2
    exact ⟨rfl, K.out⟩
end Go.Proofs.YtpdppjngbbkbbaaDoor
namespace Go.Proofs.YtpdppjngbbkbbaaDoor
open Go.RowKit

set_option maxRecDepth 100000 in
set_option linter.unusedSimpArgs false in
set_option maxHeartbeats 4000000 in
theorem heaviestR_calls (nodes : Int) (ao : Option Addr) (n cap : Nat) (es : List Ed) (mo : Option Addr) (lm mc : Nat) (m : List Int) (xo : Option Addr) (lx xc : Nat) (x : List Int) (w : World) (h : ERow w ao n cap es) (hJ : JRow w mo lm mc m) (hX : JRow w xo lx xc x) (v code : Int) (hans : Hid (hvyAns nodes es n m lm x lx = (v, code))) :
    Calls Tryd.prog 20 #[.agg #[.int .i64 nodes, .slice ao n cap], .slice mo lm mc, .slice xo lx xc] w fun e w' => e = .returned (.tuple #[.int .i64 v, .int .i64 code]) ∧ Kept w w' := by
  have hnot : ∀ (x : Bool) (w : World), (Op.unary .not (.bool x)).run Tryd.prog w = .ok (.bool (!x)) w := fun _ _ => rfl
  obtain ⟨z, A3⟩ : ∃ z, matAns nodes es n m lm = z := ⟨_, rfl⟩
  have hr0 := h.room
  have hm0 := h.most
  have hr1 := hJ.room
  have hm1 := hJ.most
  have hr2 := hX.room
  have hm2 := hX.most
  unfold maxLen at hm0 hm1 hm2
  have KW : Kept w (w.alloc (Obj.cells #[.int .i64 nodes, .slice ao n cap] 24)) := (Kept.refl w).alloc _
  have w0 : (w.alloc (Obj.cells #[.int .i64 nodes, .slice ao n cap] 24)).cell? ⟨w.heap.size, 0, none⟩ = some (.int .i64 nodes) := by simp [go_sem]
  have w1 : (w.alloc (Obj.cells #[.int .i64 nodes, .slice ao n cap] 24)).cell? ⟨w.heap.size, 1, none⟩ = some (.slice ao n cap) := by simp [go_sem]
  have HE := hid_of h
  have HJ := hid_of hJ
  have HX := hid_of hX
  have HA3 := hid_of A3
  clear h hJ hX A3
  go_enter Tryd.func20, Tryd.ntmps20
  go_wp2_with fail
  generalize w.alloc (Obj.cells #[.int .i64 nodes, .slice ao n cap] 24) = W1 at KW w0 w1 ⊢
  refine (matchingR_calls nodes ao n cap es mo lm mc m W1 (HE.out.kept KW) (HJ.out.kept KW) z HA3).mono ?_
  rintro e wa ⟨rfl, K1⟩
  have K := hid_of (KW.trans K1)
  replace w0 := K1.cell w0
  replace w1 := K1.cell w1
  clear K1 KW
  by_cases hz : z = 0
  rotate_left
  · have e := hans.out
    rw [hvyAns_mat (by rw [HA3.out]; exact hz), HA3.out] at e
    obtain ⟨rfl, rfl⟩ := Prod.mk.inj e
    have q : (z != 0) = true := by simpa using hz
    clear hz e hans HA3 w0 w1
    go_wp2
    go_ret2
    exact ⟨rfl, K.out⟩
  subst hz
  obtain ⟨hf, MOK⟩ := matAns_ok HA3.out
  obtain ⟨N, rfl, RG⟩ := right_of (fault_zero hf)
  rw [← HE.out.len] at RG
  have hN := RG.nodes
  have hn := RG.edges
  have RGH := hid_of RG
  have MH := hid_of MOK
  have lmb : lm ≤ 4096 := by have := MOK.1.len_le; omega
  have ANS : Hid ((HvyOk es N n m lm x lx → v = csum es m lm ∧ code = 0) ∧ (¬ HvyOk es N n m lm x lx → v = 0 ∧ code = 221)) := by
    have e := hans.out
    unfold hvyAns at e
    rw [if_neg (by simp [hf]), Int.toNat_natCast] at e
    refine ⟨fun t => ?_, fun t => ?_⟩
    · rw [if_pos t] at e
      obtain ⟨rfl, rfl⟩ := Prod.mk.inj e
      exact ⟨rfl, rfl⟩
    · rw [if_neg t] at e
      obtain ⟨rfl, rfl⟩ := Prod.mk.inj e
      exact ⟨rfl, rfl⟩
  have NO : Hid (¬ HvyOk es N n m lm x lx → v = 0 ∧ code = 221) := ANS.out.2
  clear hans hf MOK RG HA3
  go_wp2_with fail
  refine (potsR_calls N (.slice ao n cap) xo lx xc x wa (HX.out.kept K.out)).mono ?_
  rintro e wb ⟨K2, ⟨pok, rfl⟩ | ⟨pok, rfl⟩⟩
  rotate_left
  · obtain ⟨rfl, rfl⟩ := NO.out (fun t => pok t.2.1)
    replace K := hid_of (K.out.trans K2)
    clear K2 w0 w1 pok ANS NO
    go_wp2
    go_ret2
    exact ⟨rfl, K.out⟩
  have KB := hid_of (K.out.trans K2)
  have W0H := hid_of (K2.cell w0)
  have W1H := hid_of (K2.cell w1)
  have POK := hid_of pok
  obtain rfl : lx = N := pok.1
  clear K2 pok K w0 w1
  go_wp2_with fail
  go_loopw [9, 10] (fun s i wr => ∃ (k : Nat), k ≤ lx ∧ i = .int .i64 k ∧ s = .int .i64 (sm (zAt x) k) ∧ wb = wr ∧ ∀ j, j < k → 0 ≤ zAt x j) (fun _ i _ => lx - (intOf i).toNat)
  case atStart => exact ⟨0, by omega, rfl, rfl, rfl, fun i hi => by omega⟩
  case round =>
    obtain ⟨k, hk, rfl, rfl, rfl, hno⟩ := hrel
    have HNO := hid_of hno
    have w0 := W0H.out
    clear hno
    by_cases hgo : (k : Int) < (lx : Int)
    · obtain ⟨b2, o2, rfl, hc2⟩ := (HX.out.kept KB.out).at (by omega)
      have d5 := hc2 k (by omega)
      have HIT : Hid (0 ≤ zAt x k → ∀ j, j < k + 1 → 0 ≤ zAt x j) := fun hb i hi => by
        by_cases e : i = k
        · subst e; exact hb
        · exact HNO.out i (by omega)
      have MISS : Hid (¬ 0 ≤ zAt x k → ¬ HvyOk es lx n m lm x lx) := fun hb t => hb (t.2.2.1 k (by omega))
      obtain ⟨p1, p2⟩ := POK.out.2 k (by omega)
      obtain ⟨s1, s2⟩ := sm_bd (f := zAt x) (k := k) (B := 4398046511104) (fun i hi => POK.out.2 i (by omega))
      have SU := hid_of (sm_succ (zAt x) k)
      generalize sm (zAt x) k = s at SU s1 s2 ⊢
      generalize zAt x k = y at d5 HIT MISS p1 p2 SU
      clear hc2
      have WR : IntKind.i64.wrap (s + y) = s + y := wrap_id (by omega) (by omega)
      by_cases hy : 0 ≤ y
      · have P := hid_of (HIT.out hy)
        have q : decide (y < 0) = false := decide_eq_false (by omega)
        clear HIT MISS hy s1 s2 p1 p2
        go_wp2_with fail
        go_roundw
        case rel => exact ⟨k + 1, by omega, by go_num, by rw [SU.out], by trivial, P.out⟩
        case measure => simp [intOf]; omega
      · obtain ⟨rfl, rfl⟩ := NO.out (MISS.out hy)
        have q : decide (y < 0) = true := decide_eq_true (by omega)
        clear HIT MISS hy s1 s2 p1 p2
        go_wp2
        go_ret2
        exact ⟨rfl, KB.out⟩
    · obtain rfl : k = lx := by omega
      have PPOS := HNO
      clear HNO
      go_wp2_with fail
      go_loopw [11, 12] (fun i _ w2 => ∃ (j : Nat), j ≤ n ∧ i = .int .i64 j ∧ Kept wb w2 ∧ ∀ q, q < j → HvyE es x q) (fun i _ _ => n - (intOf i).toNat)
      case atStart => exact ⟨0, by omega, rfl, Kept.refl _, fun i hi => by omega⟩
      case round =>
        obtain ⟨j, hj, rfl, K, hno⟩ := hrel
        have HNO := hid_of hno
        have KH := hid_of K
        have w1 := K.cell W1H.out
        clear hno w0
        by_cases hgo2 : (j : Int) < (n : Int)
        · obtain ⟨b, off, rfl, hc⟩ := (HE.out.kept (KB.out.trans K)).cell (by omega)
          obtain ⟨d1, d2, d3, d4⟩ := hc j (by omega)
          obtain ⟨e1, e2, e3, e4⟩ := RGH.out.ends j (by omega)
          obtain ⟨b2, o2, rfl, hc2⟩ := (HX.out.kept (KB.out.trans K)).at (by omega)
          have p1 := hc2 (edAt es j).f.toNat (by omega)
          have p2 := hc2 (edAt es j).t.toNat (by omega)
          obtain ⟨m1, m2⟩ := POK.out.2 (edAt es j).f.toNat (by omega)
          obtain ⟨m3, m4⟩ := POK.out.2 (edAt es j).t.toNat (by omega)
          have HIT : Hid (HvyE es x j → ∀ q, q < j + 1 → HvyE es x q) := fun hb i hi => by
            by_cases e : i = j
            · subst e; exact hb
            · exact HNO.out i (by omega)
          have MISS : Hid (¬ HvyE es x j → ¬ HvyOk es k n m lm x k) := fun hb t => hb (t.2.2.2.1 j (by omega))
          unfold HvyE lp at HIT MISS
          generalize edAt es j = e at d1 d2 d3 d4 e1 e2 e3 e4 p1 p2 m1 m2 m3 m4 HIT MISS
          obtain ⟨ef, et, ec, ek⟩ := e
          simp only at d1 d2 d3 d4 e1 e2 e3 e4 p1 p2 m1 m2 m3 m4 HIT MISS
          obtain ⟨f, rfl⟩ : ∃ f : Nat, ef = (f : Int) := ⟨ef.toNat, by omega⟩
          obtain ⟨t, rfl⟩ : ∃ t : Nat, et = (t : Int) := ⟨et.toNat, by omega⟩
          simp only [Int.toNat_natCast] at p1 p2 m1 m2 m3 m4 HIT MISS
          have hfr : (f : Int) < (k : Int) := by omega
          have htr : (t : Int) < (k : Int) := by omega
          generalize zAt x f = xf at p1 m1 m2 HIT MISS
          generalize zAt x t = xt at p2 m3 m4 HIT MISS
          obtain ⟨s, hs⟩ : ∃ s, xf + xt = s := ⟨_, rfl⟩
          have WR : IntKind.i64.wrap (xf + xt) = s := by rw [wrap_id (by omega) (by omega)]; exact hs
          rw [hs] at HIT MISS
          clear hc hc2 K m1 m2 m3 m4 hs
          go_upto_region 17 with fail
          generalize hW : wr.alloc (Obj.cells #[.int .i64 (f : Int), .int .i64 (t : Int), .int .i64 ec, .int .i64 ek] 86) = W3
          obtain ⟨EK, a0, a1, a2, a3, -⟩ := edge_box hW
          replace p1 := EK.cell p1
          replace p2 := EK.cell p2
          have K3 := hid_of (KH.out.trans EK)
          clear d1 d2 d3 d4 EK KH hW a2 w1
          by_cases hft : f = t
          · have hq : ((f : Int) != (t : Int)) = false := by simp; omega
            have P := hid_of (HIT.out (.inl (by rw [beq_iff_eq]; omega)))
            clear HIT MISS hft
            refine Ord.region [(0, 0), (1, 1), (2, 0), (3, 1), (4, 0), (5, 0), (6, 0), (7, 0), (8, 1), (9, 0), (10, 1), (11, 0), (12, 0), (13, 1), (14, 0), (15, 1), (16, 0), (17, 0), (18, 1), (19, 0), (20, 0)] (fun w' => Kept W3 w') (by kernel_rfl) (by kernel_rfl) (by kernel_rfl) (by kernel_rfl) (fun _ _ d _ _ h => by cases d <;> exact h) ((Kept.refl _).drewN _) ?_
            repeat
              refine Ord.step rfl (fun Ko hK => ?_)
              simp only [Ord.body]
              go_simp
              first
                | (refine hK _ _ ?_; clear hK Ko)
                | (refine ⟨_, fun w' hS => (by have c0 := hS.cell a0; have c1 := hS.cell a1; have c2 := hS.cell a3; have c3 := hS.cell p1; have c4 := hS.cell p2; simp only [c0, c1, c2, c3, c4, Result.andThen]; rfl), hK _ _ ?_⟩; clear hK Ko)
                | ((simp only [hq]))
            refine Ord.done ?_
            have KN := hid_of (K3.out.trans ((Kept.refl _).drewN 1))
            clear a0 a1 a3 p1 p2
            go_wp2_with fail
            go_roundw
            case rel => exact ⟨j + 1, by omega, by go_num, KN.out, P.out⟩
            case measure => simp [intOf]; omega
          have hq : ((f : Int) != (t : Int)) = true := by simp; omega
          by_cases hle : ek ≤ s
          · have P := hid_of (HIT.out (.inr hle))
            have qd : decide (s < ek) = false := decide_eq_false (by omega)
            clear HIT MISS hft
            refine Ord.region [(0, 0), (1, 1), (2, 0), (3, 1), (4, 0), (5, 0), (6, 0), (7, 0), (8, 1), (9, 0), (10, 1), (11, 0), (12, 0), (13, 1), (14, 0), (15, 1), (16, 0), (17, 0), (18, 1), (19, 0), (20, 0)] (fun w' => Kept W3 w') (by kernel_rfl) (by kernel_rfl) (by kernel_rfl) (by kernel_rfl) (fun _ _ d _ _ h => by cases d <;> exact h) ((Kept.refl _).drewN _) ?_
            repeat
              refine Ord.step rfl (fun Ko hK => ?_)
              simp only [Ord.body]
              go_simp
              first
                | (refine hK _ _ ?_; clear hK Ko)
                | (refine ⟨_, fun w' hS => (by have c0 := hS.cell a0; have c1 := hS.cell a1; have c2 := hS.cell a3; have c3 := hS.cell p1; have c4 := hS.cell p2; simp only [c0, c1, c2, c3, c4, Result.andThen]; rfl), hK _ _ ?_⟩; clear hK Ko)
                | ((simp only [WR, hq, qd]))
            refine Ord.done ?_
            have KN := hid_of (K3.out.trans ((Kept.refl _).drewN 1))
            clear a0 a1 a3 p1 p2
            go_wp2_with fail
            go_roundw
            case rel => exact ⟨j + 1, by omega, by go_num, KN.out, P.out⟩
            case measure => simp [intOf]; omega
          · obtain ⟨rfl, rfl⟩ := NO.out (MISS.out (fun u => by
              rcases u with u | u
              · rw [beq_iff_eq] at u; omega
              · exact hle u))
            have qd : decide (s < ek) = true := decide_eq_true (by omega)
            clear HIT MISS hft
            refine Ord.region [(0, 0), (1, 1), (2, 0), (3, 1), (4, 0), (5, 0), (6, 0), (7, 0), (8, 1), (9, 0), (10, 1), (11, 0), (12, 0), (13, 1), (14, 0), (15, 1), (16, 0), (17, 0), (18, 1), (19, 0), (20, 0)] (fun w' => Kept W3 w') (by kernel_rfl) (by kernel_rfl) (by kernel_rfl) (by kernel_rfl) (fun _ _ d _ _ h => by cases d <;> exact h) ((Kept.refl _).drewN _) ?_
            repeat
              refine Ord.step rfl (fun Ko hK => ?_)
              simp only [Ord.body]
              go_simp
              first
                | (refine hK _ _ ?_; clear hK Ko)
                | (refine ⟨_, fun w' hS => (by have c0 := hS.cell a0; have c1 := hS.cell a1; have c2 := hS.cell a3; have c3 := hS.cell p1; have c4 := hS.cell p2; simp only [c0, c1, c2, c3, c4, Result.andThen]; rfl), hK _ _ ?_⟩; clear hK Ko)
                | ((simp only [WR, hq, qd]))
            refine Ord.done ?_
            have KN := hid_of (KB.out.trans (K3.out.trans ((Kept.refl _).drewN 1)))
            clear a0 a1 a3 p1 p2
            go_wp2
            go_ret2
            exact ⟨rfl, KN.out⟩
        · obtain rfl : j = n := by omega
          have w0 := K.cell W0H.out
          have KF := hid_of (KB.out.trans K)
          have CO := hid_of (costR_calls (k : Int) k ao j cap es mo lm mc m wr (HE.out.kept KF.out) (HJ.out.kept KF.out) RGH.out (fun i hi => MH.out.1.rng hi) lmb)
          have DDEF : Hid (HvyOk es k j m lm x k ↔ sm (zAt x) k = csum es m lm) := ⟨fun t => t.2.2.2.2, fun t => ⟨MH.out, POK.out, PPOS.out, HNO.out, t⟩⟩
          obtain ⟨S, hS⟩ : ∃ S, csum es m lm = S := ⟨_, rfl⟩
          obtain ⟨Q, hQ⟩ : ∃ Q, sm (zAt x) k = Q := ⟨_, rfl⟩
          rw [hQ]
          rw [hS, hQ] at DDEF
          rw [hS] at CO ANS
          clear K hS hQ
          go_wp2_with fail
          refine CO.out.mono ?_
          rintro e wf ⟨rfl, K9⟩
          have KN := hid_of (KF.out.trans K9)
          clear K9 w0 w1 CO
          by_cases he : Q = S
          · obtain ⟨rfl, rfl⟩ := ANS.out.1 (DDEF.out.2 he)
            have q : (Q != v) = false := by simpa using he
            subst he
            clear NO ANS
            go_wp2
            go_ret2
            exact ⟨rfl, KN.out⟩
          · obtain ⟨rfl, rfl⟩ := NO.out (fun t => he (DDEF.out.1 t))
            have q : (Q != S) = true := by simpa using he
            clear NO ANS he
            go_wp2
            go_ret2
            exact ⟨rfl, KN.out⟩
end Go.Proofs.YtpdppjngbbkbbaaDoor

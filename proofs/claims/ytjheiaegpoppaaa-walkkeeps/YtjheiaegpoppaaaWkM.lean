/- The document's Order: may a node come next? -/
import Derived.Test.YtjheiaegpoppaaaWkK
namespace Go.Proofs.Ytjheiaegpoppaaa
open Go.RowKit

theorem cnt_zero {es : List Ed} {O : List Nat} {v : Nat} (h : ∀ e ∈ es, ¬ (e.t = (v : Int) ∧ O.contains e.f.toNat = false)) : cntIn es O v = 0 := by
  unfold cntIn
  have : (es.filter fun e => e.t == (v : Int) && !(O.contains e.f.toNat)) = [] := by
    rw [List.filter_eq_nil_iff]
    intro e he t
    simp only [Bool.and_eq_true, beq_iff_eq, Bool.not_eq_true'] at t
    exact h e he t
  rw [this]
  rfl

theorem cnt_pos {es : List Ed} {O : List Nat} {v : Nat} {e : Ed} (he : e ∈ es) (h1 : e.t = (v : Int)) (h2 : O.contains e.f.toNat = false) : ¬ cntIn es O v = 0 := by
  unfold cntIn
  intro t
  have t2 : (es.filter fun e => e.t == (v : Int) && !(O.contains e.f.toNat)).length = 0 := by omega
  rw [List.length_eq_zero_iff, List.filter_eq_nil_iff] at t2
  exact t2 e he (by rw [h1, h2]; simp)

set_option maxRecDepth 100000 in
set_option maxHeartbeats 4000000 in
theorem may_calls (n : Nat) (ao : Option Addr) (m cap : Nat) (es : List Ed) (w : World) (h : ERow w ao m cap es) (hrg : Hid (∀ e ∈ es, 0 ≤ e.f ∧ e.f < (n : Int) ∧ 0 ≤ e.t ∧ e.t < (n : Int))) (gd : Nat) (O : List Nat) (hB : Hid (BoolsAt w gd n (fun v => O.contains v))) (v : Nat) (bb : Bool) (hbb : Hid (bb = decide (cntIn es O v = 0))) :
    Calls Try.prog 35 #[.agg #[.int .i64 (n : Int), .slice ao m cap], .slice (some ⟨gd, 0, none⟩) n n, .int .i64 (v : Int)] w fun r w' => r = .returned (.bool bb) ∧ Kept w w' := by
  have hnot : ∀ (x : Bool) (w : World), (Op.unary .not (.bool x)).run Try.prog w = .ok (.bool (!x)) w := fun _ _ => rfl
  have KG : Kept w (w.alloc (Obj.cells #[.int .i64 (n : Int), .slice ao m cap] 24)) := (Kept.refl w).alloc _
  have g1 : (w.alloc (Obj.cells #[.int .i64 (n : Int), .slice ao m cap] 24)).cell? ⟨w.heap.size, 1, none⟩ = some (.slice ao m cap) := by simp [go_sem]
  have HE := hid_of (h.kept KG)
  have HB := hid_of (hB.out.kept KG)
  have HL := hid_of h.len
  have hr := h.room
  have hmx := h.most
  unfold maxLen at hmx
  clear h hB
  go_enter Try.func35, Try.ntmps35
  go_wp2_with fail
  generalize hW0 : w.alloc (Obj.cells #[.int .i64 (n : Int), .slice ao m cap] 24) = W0 at KG g1 HE HB ⊢
  clear hW0
  have KGH := hid_of KG
  clear KG
  go_loopw [7] (fun i wr => ∃ k : Nat, k ≤ m ∧ i = .int .i64 (k : Int) ∧ (∀ j, j < k → ¬ ((edAt es j).t = (v : Int) ∧ O.contains (edAt es j).f.toNat = false)) ∧ Kept W0 wr) (fun i _ => m - (intOf i).toNat)
  case atStart => exact ⟨0, by omega, rfl, fun j hj => by omega, Kept.refl _⟩
  case round =>
    obtain ⟨k, hk, rfl, NO, K⟩ := hrel
    have x1 := K.cell g1
    have NOH := hid_of NO
    clear NO
    by_cases hgo : (k : Int) < (m : Int)
    · obtain ⟨b, off, rfl, hc⟩ := HE.out.cell (by omega)
      obtain ⟨d1, d2, d3, d4⟩ := hc k (by omega)
      replace d1 := K.cell d1
      replace d2 := K.cell d2
      clear hc d3 d4
      have hkl : k < es.length := by have := HL.out; omega
      have hmem : edAt es k ∈ es := by
        have : edAt es k = es[k] := by simp [edAt, List.getD, hkl]
        rw [this]; exact List.getElem_mem hkl
      have RG := hrg.out _ hmem
      obtain ⟨x, hfe⟩ : ∃ f : Nat, (edAt es k).f = (f : Int) := ⟨(edAt es k).f.toNat, by omega⟩
      obtain ⟨y, hte⟩ : ∃ t : Nat, (edAt es k).t = (t : Int) := ⟨(edAt es k).t.toNat, by omega⟩
      rw [hfe, hte] at RG
      have hfn : x < n := by omega
      have hfi : (x : Int) < (n : Int) := by omega
      have SY : Hid (y = v → O.contains x = false → bb = false) := fun u t => by
        rw [hbb.out, decide_eq_false_iff_not]
        exact cnt_pos hmem (by rw [hte, u]) (by rw [hfe, Int.toNat_natCast]; exact t)
      have SN : Hid (¬ (y = v ∧ O.contains x = false) → ∀ j, j < k + 1 → ¬ ((edAt es j).t = (v : Int) ∧ O.contains (edAt es j).f.toNat = false)) := fun u j hj t => by
        by_cases e : j = k
        · subst e
          rw [hfe, hte, Int.toNat_natCast] at t
          exact u ⟨by omega, t.2⟩
        · exact NOH.out j (by omega) t
      rw [hfe] at d1
      rw [hte] at d2
      have cx := (HB.out.kept K).cell hfn
      have KH := hid_of K
      clear hmem RG hfe hte K NOH
      generalize hO : O.contains x = ox at cx SY SN
      clear hO
      by_cases q1 : y = v
      · subst q1
        have qe : ((y : Int) == (y : Int)) = true := by simp
        cases ox with
        | false =>
          have eb := SY.out rfl rfl
          subst eb
          clear SY SN
          go_wp2_with fail
          go_ret
          exact ⟨rfl, KGH.out.trans KH.out⟩
        | true =>
          have NN := hid_of (SN.out (fun t => by cases t.2))
          clear SY SN
          go_wp2_with fail
          go_roundw
          case rel => exact ⟨k + 1, by omega, by go_num, NN.out, KH.out⟩
          case measure => simp [intOf]; omega
      · have qe : ((y : Int) == (v : Int)) = false := by rw [beq_eq_false_iff_ne]; omega
        have NN := hid_of (SN.out (fun t => q1 t.1))
        clear SY SN
        go_wp2_with fail
        go_roundw
        case rel => exact ⟨k + 1, by omega, by go_num, NN.out, KH.out⟩
        case measure => simp [intOf]; omega
    · obtain rfl : k = m := by omega
      have eb : bb = true := by
        rw [hbb.out, decide_eq_true_iff]
        refine cnt_zero (fun e he => ?_)
        obtain ⟨j, hj, rfl⟩ := List.getElem_of_mem he
        have ej : edAt es j = es[j] := by simp [edAt, List.getD, hj]
        rw [← ej]
        exact NOH.out j (by have := HL.out; omega)
      subst eb
      have KH := hid_of K
      clear K NOH
      go_wp2_with fail
      go_ret
      exact ⟨rfl, KGH.out.trans KH.out⟩
end Go.Proofs.Ytjheiaegpoppaaa

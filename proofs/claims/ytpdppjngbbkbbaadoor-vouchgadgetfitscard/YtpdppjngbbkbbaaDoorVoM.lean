/- gadgetSize. -/
import Derived.Test.YtpdppjngbbkbbaaDoorVoL
namespace Go.Proofs.YtpdppjngbbkbbaaDoor
open Go.RowKit

/-- How many nodes a gadget has behind k edges. -/
def szN (cp : Nat → Int) (N : Nat) (es : List Ed) (k : Nat) : Int := sm cp N + 2 * nlTo es k
/-- How many edges a gadget has behind k edges. -/
def szE (cp : Nat → Int) (es : List Ed) (k : Nat) : Int := sm (fun i => if lp es i then 0 else 1 + cp (edAt es i).f.toNat + cp (edAt es i).t.toNat) k
theorem szE_succ (cp : Nat → Int) (es : List Ed) (k : Nat) : szE cp es (k + 1) = szE cp es k + (if lp es k then 0 else 1 + cp (edAt es k).f.toNat + cp (edAt es k).t.toNat) := rfl
/-- Counts of copies, small enough. -/
def CpOk (cp : Nat → Int) (N : Nat) : Prop := ∀ v, v < N → 0 ≤ cp v ∧ cp v ≤ 4096
theorem CpOk.sm_bd {cp : Nat → Int} {N : Nat} (h : CpOk cp N) (k : Nat) (hk : k ≤ N) : 0 ≤ sm cp k ∧ sm cp k ≤ 4096 * (k : Int) := by
  induction k with
  | zero => exact ⟨Int.le_refl _, by simp [sm]⟩
  | succ k ih => rw [sm_succ]; have := ih (by omega); have := h k (by omega); omega
theorem CpOk.szE_bd {cp : Nat → Int} {N n : Nat} {es : List Ed} (h : CpOk cp N) (he : EndsIn es N n) (k : Nat) (hk : k ≤ n) : 0 ≤ szE cp es k ∧ szE cp es k ≤ 8193 * (k : Int) := by
  induction k with
  | zero => exact ⟨Int.le_refl _, by simp [szE, sm]⟩
  | succ k ih =>
    rw [szE_succ]
    have := ih (by omega)
    obtain ⟨e1, e2, e3, e4⟩ := he k (by omega)
    have := h (edAt es k).f.toNat (by omega)
    have := h (edAt es k).t.toNat (by omega)
    split <;> omega

set_option maxRecDepth 100000 in
set_option linter.unusedSimpArgs false in
set_option maxHeartbeats 4000000 in
theorem size_calls (N : Nat) (ao : Option Addr) (n cap : Nat) (es : List Ed) (q : Nat) (cp : Nat → Int) (w : World) (h : ERow w ao n cap es) (hI : IntsAt w q N cp) (RG : Right N n es) (hc : CpOk cp N) :
    Calls Tryd.prog 107 #[.agg #[.int .i64 (N : Int), .slice ao n cap], .slice (some ⟨q, 0, none⟩) N N] w fun r w' => r = .returned (.tuple #[.int .i64 (szN cp N es n), .int .i64 (szE cp es n)]) ∧ Kept w w' := by
  have hr1 := h.room
  have hm1 := h.most
  unfold maxLen at hm1
  have hn := RG.edges
  have hN := RG.nodes
  have KW : Kept w (w.alloc (Obj.cells #[.int .i64 (N : Int), .slice ao n cap] 24)) := (Kept.refl w).alloc _
  have w1 : (w.alloc (Obj.cells #[.int .i64 (N : Int), .slice ao n cap] 24)).cell? ⟨w.heap.size, 1, none⟩ = some (.slice ao n cap) := by simp [go_sem]
  have HE := hid_of h
  have HI := hid_of hI
  have RGH := hid_of RG
  have HC := hid_of hc
  clear h hI RG hc
  go_enter Tryd.func107, Tryd.ntmps107
  go_wp2_with fail
  generalize w.alloc (Obj.cells #[.int .i64 (N : Int), .slice ao n cap] 24) = W1 at KW w1 ⊢
  have HKW := hid_of KW
  have W1H := hid_of w1
  clear KW w1
  go_loopw [4, 7, 12] (fun s _ i wr => ∃ (k : Nat), k ≤ N ∧ i = .int .i64 k ∧ s = .int .i64 (sm cp k) ∧ W1 = wr) (fun _ _ i _ => N - (intOf i).toNat)
  case atStart => exact ⟨0, by omega, rfl, rfl, rfl⟩
  case round =>
    obtain ⟨k, hk, rfl, rfl, rfl⟩ := hrel
    by_cases hgo : (k : Int) < (N : Int)
    · have ck := (HI.out.kept HKW.out).cell (show k < N by omega)
      have SU := hid_of (sm_succ cp k)
      obtain ⟨s1, s2⟩ := HC.out.sm_bd k hk
      obtain ⟨p1, p2⟩ := HC.out k (by omega)
      have s3 : sm cp k ≤ 4194304 := by omega
      clear s2
      generalize sm cp k = s at SU s1 s3
      generalize cp k = x at SU ck p1 p2
      have WR : IntKind.i64.wrap (s + x) = s + x := wrap_id (by omega) (by omega)
      go_wp2_with fail
      go_roundw
      case rel => exact ⟨k + 1, by omega, by go_num, by rw [SU.out], by trivial⟩
      case measure => simp [intOf]; omega
    · obtain rfl : k = N := by omega
      have w1 := W1H.out
      obtain ⟨s1, s2⟩ := HC.out.sm_bd k (Nat.le_refl _)
      have s3 : sm cp k ≤ 4194304 := by omega
      clear s2
      have SN : Hid (∀ j, szN cp k es j = sm cp k + 2 * nlTo es j) := fun _ => rfl
      generalize sm cp k = S at SN s1 s3
      go_wp2_with fail
      go_loopw [4, 5, 9, 23] (fun a s _ i wr => ∃ (j : Nat), j ≤ n ∧ i = .int .i64 j ∧ a = .int .i64 (S + 2 * nlTo es j) ∧ s = .int .i64 (szE cp es j) ∧ Kept w wr) (fun _ _ _ i _ => n - (intOf i).toNat)
      case atStart => exact ⟨0, by omega, rfl, by simp [nlTo, sm], rfl, HKW.out⟩
      case round =>
        obtain ⟨j, hj, rfl, rfl, rfl, K⟩ := hrel
        have hnot : ∀ (x : Bool) (w : World), (Op.unary .not (.bool x)).run Tryd.prog w = .ok (.bool (!x)) w := fun _ _ => rfl
        have KH := hid_of K
        obtain ⟨n1, n2⟩ := nlTo_bd es j
        obtain ⟨z1, z2⟩ := HC.out.szE_bd RGH.out.ends j hj
        have z3 : szE cp es j ≤ 33558528 := by omega
        clear z2
        by_cases hgo2 : (j : Int) < (n : Int)
        · obtain ⟨b, off, rfl, hc⟩ := (HE.out.kept K).cell (by omega)
          obtain ⟨d1, d2, d3, d4⟩ := hc j (by omega)
          obtain ⟨e1, e2, e3, e4⟩ := RGH.out.ends j (by omega)
          have SU1 := hid_of (nlTo_succ es j)
          have SU2 := hid_of (szE_succ cp es j)
          unfold lp at SU1 SU2
          generalize nlTo es j = c0 at SU1 n1 n2
          generalize szE cp es j = s0 at SU2 z1 z3
          generalize edAt es j = e at d1 d2 d3 d4 e1 e2 e3 e4 SU1 SU2
          have CL := hid_of (isLoop_calls e)
          obtain ⟨ef, et, ec, ek⟩ := e
          simp only at d1 d2 d3 d4 e1 e2 e3 e4 SU1 SU2
          obtain ⟨f, rfl⟩ : ∃ f : Nat, ef = (f : Int) := ⟨ef.toNat, by omega⟩
          obtain ⟨t, rfl⟩ : ∃ t : Nat, et = (t : Int) := ⟨et.toNat, by omega⟩
          simp only [Int.toNat_natCast] at SU2
          have hfN : f < k := by omega
          have htN : t < k := by omega
          clear hc K w1
          go_upto_region 9 with fail
          generalize hW : wr.alloc (Obj.cells #[.int .i64 (f : Int), .int .i64 (t : Int), .int .i64 ec, .int .i64 ek] 86) = W3
          obtain ⟨EK, a0, a1, a2, a3, -⟩ := edge_box hW
          have HK3 := hid_of (KH.out.trans EK)
          clear d1 d2 d3 d4 EK KH hW
          go_wp2_with fail
          refine (CL.out _).mono ?_
          rintro e w4 ⟨rfl, K4⟩
          replace a0 := K4.cell a0
          replace a1 := K4.cell a1
          have HK4 := hid_of (HK3.out.trans K4)
          clear K4 CL a2 a3 HK3
          by_cases hft : f = t
          · have hq1 : ((f : Int) == (t : Int)) = true := by rw [beq_iff_eq]; omega
            have T1 : Hid (nlTo es (j + 1) = c0) := by
              show nlTo es (j + 1) = c0
              rw [SU1.out, if_pos hq1, Int.add_zero]
            have T2 : Hid (szE cp es (j + 1) = s0) := by
              show szE cp es (j + 1) = s0
              rw [SU2.out, if_pos hq1, Int.add_zero]
            clear SU1 SU2
            go_wp2_with fail
            go_roundw
            case rel => exact ⟨j + 1, by omega, by go_num, by rw [T1.out], by rw [T2.out], HK4.out⟩
            case measure => simp [intOf]; omega
          · have hq1 : ((f : Int) == (t : Int)) = false := by rw [beq_eq_false_iff_ne]; omega
            have T1 : Hid (nlTo es (j + 1) = c0 + 1) := by
              show nlTo es (j + 1) = c0 + 1
              rw [SU1.out, if_neg (by rw [hq1]; decide)]
            have T2 : Hid (szE cp es (j + 1) = s0 + (1 + cp f + cp t)) := by
              show szE cp es (j + 1) = _
              rw [SU2.out, if_neg (by rw [hq1]; decide)]
            have I4 := HI.out.kept HK4.out
            have cf := I4.cell hfN
            have ct := I4.cell htN
            obtain ⟨p1, p2⟩ := HC.out f hfN
            obtain ⟨p3, p4⟩ := HC.out t htN
            clear SU1 SU2 I4
            generalize cp f = x at cf p1 p2 T2
            generalize cp t = y at ct p3 p4 T2
            have WR1 : IntKind.i64.wrap (S + 2 * c0 + 2) = S + 2 * c0 + 2 := wrap_id (by omega) (by omega)
            have WR2 : IntKind.i64.wrap (s0 + IntKind.i64.wrap (IntKind.i64.wrap (1 + x) + y)) = s0 + (1 + x + y) := by
              rw [wrap_id (x := 1 + x) (by omega) (by omega), wrap_id (x := 1 + x + y) (by omega) (by omega), wrap_id (by omega) (by omega)]
            clear n1 n2 z1 z3 p1 p2 p3 p4
            go_wp2_with fail
            refine Ord.region [(0, 0), (1, 0), (2, 0), (3, 1), (4, 0), (5, 1), (6, 0), (7, 0), (8, 0), (9, 1), (10, 0), (11, 1), (12, 0), (13, 0), (14, 0)] (fun w' => Kept w4 w') (by kernel_rfl) (by kernel_rfl) (by kernel_rfl) (by kernel_rfl) (fun _ _ d _ _ h => by cases d <;> exact h) ((Kept.refl _).drewN _) ?_
            repeat
              refine Ord.step rfl (fun Ko hK => ?_)
              simp only [Ord.body]
              go_simp
              first
                | (refine hK _ _ ?_; clear hK Ko)
                | (refine ⟨_, fun w' hS => (by have c0 := hS.cell a0; have c1 := hS.cell a1; have c2 := hS.cell cf; have c3 := hS.cell ct; simp only [c0, c1, c2, c3, Result.andThen]; rfl), hK _ _ ?_⟩; clear hK Ko)
                | ((rw [WR2]))
            refine Ord.done ?_
            go_wp2
            go_roundw
            case rel => exact ⟨j + 1, by omega, by go_num, by rw [T1.out]; congr 1; omega, by rw [T2.out], HK4.out.drewN _⟩
            case measure => simp [intOf]; omega
        · obtain rfl : j = n := by omega
          clear K
          have E1 := hid_of (SN.out j).symm
          generalize szN cp k es j = A at E1
          have e1 := E1.out
          go_wp2
          go_ret2
          exact ⟨by rw [SN.out j, e1]; rfl, KH.out⟩
end Go.Proofs.YtpdppjngbbkbbaaDoor

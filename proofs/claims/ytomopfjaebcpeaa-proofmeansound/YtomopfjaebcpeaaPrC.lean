/- Right graphs; mustFit, mustBePotentials. -/
import Derived.Test.YtomopfjaebcpeaaPrB
import Derived.Test.YtomopfjaebcpeaaPrA
namespace Go.Proofs.Ytomopfjaebcpeaa
open Go.RowKit

/-- A right graph. -/
structure Right (N n : Nat) (es : List Ed) : Prop where
  nodes : N ≤ 1024
  edges : n ≤ 4096
  len : n = es.length
  ends : EndsIn es N n
  caps : ∀ i, i < n → 0 ≤ (edAt es i).c ∧ (edAt es i).c ≤ 1048576
  costs : ∀ i, i < n → -1048576 ≤ (edAt es i).k ∧ (edAt es i).k ≤ 1048576

theorem right_of {nodes : Int} {es : List Ed} (h : faultOf nodes es = (0, 0)) : ∃ N : Nat, nodes = (N : Int) ∧ Right N es.length es := by
  unfold faultOf at h
  by_cases hs : nodes < 0 ∨ 1024 < nodes ∨ 4096 < es.length
  · rw [if_pos hs] at h; simp at h
  · rw [if_neg hs] at h
    have hb : ∀ k, k ≤ es.length → ∀ i, i < k → badOf nodes (edAt es i) = 0 := by
      intro k hk i hi
      have h0 : (faultTo nodes es i).1 = 0 := by
        by_cases h1 : (faultTo nodes es i).1 = 0
        · exact h1
        · have := fault_stop nodes es i h1 (es.length - i)
          rw [show i + (es.length - i) = es.length by omega, h] at this
          rw [← this] at h1
          exact absurd rfl h1
      by_cases h1 : badOf nodes (edAt es i) = 0
      · exact h1
      · have := fault_hit nodes es i (fault_clean nodes es i h0) h1 (by omega)
        rw [h] at this
        simp only [Prod.mk.injEq] at this
        exact absurd this.1.symm h1
    refine ⟨nodes.toNat, by omega, ⟨by omega, by omega, rfl, fun i hi => ?_, fun i hi => ?_, fun i hi => ?_⟩⟩
    all_goals
      have := hb es.length (Nat.le_refl _) i hi
      unfold badOf at this
      split at this
      · omega
      · split at this <;> omega

/-- A number of a list. -/
def zAt (zs : List Int) (i : Nat) : Int := zs.getD i 0
/-- Amounts, one for each edge, within the capacities. -/
def FitsOn (es : List Ed) (on : List Int) (m n : Nat) : Prop := m = n ∧ OnFits es (zAt on) n

theorem JRow.at {w : World} {ao : Option Addr} {n cap : Nat} {zs : List Int} (h : JRow w ao n cap zs) (hn : 0 < n) : ∃ b off, ao = some ⟨b, off, none⟩ ∧ ∀ i, i < n → w.cell? ⟨b, off + i, none⟩ = some (.int .i64 (zAt zs i)) := h.cell hn

set_option maxRecDepth 100000 in
set_option linter.unusedSimpArgs false in
set_option maxHeartbeats 2000000 in
theorem mustFit_calls (nodes : Int) (ao : Option Addr) (n cap : Nat) (es : List Ed) (bo : Option Addr) (m bc : Nat) (on : List Int) (w : World) (h : ERow w ao n cap es) (hJ : JRow w bo m bc on) :
    Calls Try.prog 52 #[.slice bo m bc, .agg #[.int .i64 nodes, .slice ao n cap]] w fun e w' => Kept w w' ∧ ((FitsOn es on m n ∧ e = .returned (.tuple #[])) ∨ (¬ FitsOn es on m n ∧ e = .panicked [{ v := .iface 136 (.agg #[.int .i64 221]), recovered := false }])) := by
  have hr := h.room
  have hm := h.most
  have hr2 := hJ.room
  have hm2 := hJ.most
  unfold maxLen at hm hm2
  have KW : Kept w (w.alloc (Obj.cells #[.int .i64 nodes, .slice ao n cap] 24)) := (Kept.refl w).alloc _
  have w1 : (w.alloc (Obj.cells #[.int .i64 nodes, .slice ao n cap] 24)).cell? ⟨w.heap.size, 1, none⟩ = some (.slice ao n cap) := by simp [go_sem]
  have HE := hid_of (h.kept KW)
  have HJ := hid_of (hJ.kept KW)
  clear h hJ
  by_cases hmn : m = n
  · subst hmn
    have q : ((m : Int) == (m : Int)) = true := by simp
    go_enter Try.func52, Try.ntmps52
    go_wp2_with (go_at_call 53; refine (must_ok _).mono ?_; rintro e w' ⟨rfl, rfl⟩)
    generalize w.alloc (Obj.cells #[.int .i64 nodes, .slice ao m cap] 24) = W1 at KW w1 HE HJ ⊢
    go_loopw [4, 5, 16] (fun _ _ i wr => ∃ (k : Nat), k ≤ m ∧ i = .int .i64 k ∧ Kept W1 wr ∧ OnFits es (zAt on) k) (fun _ _ i _ => m - (intOf i).toNat)
    case atStart => exact ⟨0, by omega, rfl, Kept.refl _, fun i hi => by omega⟩
    case round =>
      obtain ⟨k, hk, rfl, K, hno⟩ := hrel
      have HNO := hid_of hno
      clear hno
      by_cases hgo : (k : Int) < (m : Int)
      · obtain ⟨b, off, rfl, hc⟩ := HE.out.cell (by omega)
        obtain ⟨c1, c2, c3, c4⟩ := hc k (by omega)
        obtain ⟨b2, off2, rfl, hc2⟩ := HJ.out.at (by omega)
        have d1 := K.cell c1
        have d2 := K.cell c2
        have d3 := K.cell c3
        have d4 := K.cell c4
        have d5 := K.cell (hc2 k (by omega))
        clear hc c1 c2 c3 c4 hc2
        have HIT : Hid ((0 ≤ zAt on k ∧ zAt on k ≤ (edAt es k).c) → OnFits es (zAt on) (k + 1)) := fun hb i hi => by
          by_cases e : i = k
          · subst e; exact hb
          · exact HNO.out i (by omega)
        have MISS : Hid (¬ (0 ≤ zAt on k ∧ zAt on k ≤ (edAt es k).c) → ¬ OnFits es (zAt on) m) := fun hb t => hb (t k (by omega))
        generalize zAt on k = x at d5 HIT MISS
        generalize edAt es k = e at d1 d2 d3 d4 HIT MISS
        obtain ⟨ef, et, ec, ek⟩ := e
        have KE := K.alloc (Obj.cells #[.int .i64 ef, .int .i64 et, .int .i64 ec, .int .i64 ek] 98)
        have d6 := ((Kept.refl wr).alloc (Obj.cells #[.int .i64 ef, .int .i64 et, .int .i64 ec, .int .i64 ek] 98)).cell d5
        have d7 : (wr.alloc (Obj.cells #[.int .i64 ef, .int .i64 et, .int .i64 ec, .int .i64 ek] 98)).cell? ⟨wr.heap.size, 2, none⟩ = some (.int .i64 ec) := by simp [go_sem]
        clear HE HJ
        simp only at d1 d2 d3 d4 HIT MISS
        by_cases hx : 0 ≤ x
        · have g1 : decide (0 ≤ x) = true := by simpa using hx
          by_cases hy : x ≤ ec
          · have P := hid_of (HIT.out ⟨hx, hy⟩)
            have g2 : decide (x ≤ ec) = true := by simpa using hy
            clear HIT MISS
            go_wp2_with fail
            generalize wr.alloc (Obj.cells #[.int .i64 ef, .int .i64 et, .int .i64 ec, .int .i64 ek] 98) = W2 at KE d6 d7 ⊢
            refine Ord.region [(0, 0), (1, 0), (2, 0), (3, 1), (4, 0), (5, 0), (6, 0), (7, 0), (8, 0), (9, 1), (10, 0), (11, 1), (12, 0), (13, 0), (14, 2)] (fun w' => Kept W2 w') (by kernel_rfl) (by kernel_rfl) (by kernel_rfl) (by kernel_rfl) (fun _ _ d _ _ h => by cases d <;> exact h) ((Kept.refl _).drewN _) ?_
            repeat
              refine Ord.step rfl (fun Ko hK => ?_)
              simp only [Ord.body]
              go_simp
              first
                | (refine hK _ _ ?_; clear hK Ko)
                | (refine ⟨_, fun w' hS => (by have c0 := hS.cell d6; have c1 := hS.cell d7; simp only [c0, c1, Result.andThen]; rfl), hK _ _ ?_⟩; clear hK Ko)
                | (go_at_call 53; refine (must_ok _).mono ?_; rintro e w' ⟨rfl, rfl⟩; refine ⟨(Kept.refl _).drewN _, hK _ _ ?_⟩; clear hK Ko)
            refine Ord.done ?_
            go_wp2
            go_roundw
            case rel => exact ⟨k + 1, by omega, by go_num, KE.drewN _, P.out⟩
            case measure => simp [intOf]; omega
          · have P := hid_of (MISS.out (fun t => hy t.2))
            have g2 : decide (x ≤ ec) = false := by simpa using hy
            clear HIT MISS
            go_wp2_with fail
            generalize wr.alloc (Obj.cells #[.int .i64 ef, .int .i64 et, .int .i64 ec, .int .i64 ek] 98) = W2 at KE d6 d7 ⊢
            refine Ord.region [(0, 0), (1, 0), (2, 0), (3, 1), (4, 0), (5, 0), (6, 0), (7, 0), (8, 0), (9, 1), (10, 0), (11, 1), (12, 0), (13, 0), (14, 2)] (fun w' => Kept W2 w') (by kernel_rfl) (by kernel_rfl) (by kernel_rfl) (by kernel_rfl) (fun _ _ d _ _ h => by cases d <;> exact h) ((Kept.refl _).drewN _) ?_
            repeat
              refine Ord.step rfl (fun Ko hK => ?_)
              simp only [Ord.body]
              go_simp
              first
                | (refine hK _ _ ?_; clear hK Ko)
                | (refine ⟨_, fun w' hS => (by have c0 := hS.cell d6; have c1 := hS.cell d7; simp only [c0, c1, Result.andThen]; rfl), hK _ _ ?_⟩; clear hK Ko)
                | (go_at_call 53; refine (must_no _).mono ?_; rintro e w' ⟨rfl, rfl⟩)
            go_simp
            exact ⟨rfl, (KW.trans KE).drewN _, .inr ⟨fun t => P.out t.2, rfl⟩⟩
        · have P := hid_of (MISS.out (fun t => hx t.1))
          have g1 : decide (0 ≤ x) = false := by simpa using hx
          clear HIT MISS
          go_wp2_with fail
          generalize wr.alloc (Obj.cells #[.int .i64 ef, .int .i64 et, .int .i64 ec, .int .i64 ek] 98) = W2 at KE d6 d7 ⊢
          refine Ord.region [(0, 0), (1, 0), (2, 0), (3, 1), (4, 0), (5, 0), (6, 0), (7, 0), (8, 0), (9, 1), (10, 0), (11, 1), (12, 0), (13, 0), (14, 2)] (fun w' => Kept W2 w') (by kernel_rfl) (by kernel_rfl) (by kernel_rfl) (by kernel_rfl) (fun _ _ d _ _ h => by cases d <;> exact h) ((Kept.refl _).drewN _) ?_
          repeat
            refine Ord.step rfl (fun Ko hK => ?_)
            simp only [Ord.body]
            go_simp
            first
              | (refine hK _ _ ?_; clear hK Ko)
              | (refine ⟨_, fun w' hS => (by have c0 := hS.cell d6; have c1 := hS.cell d7; simp only [c0, c1, Result.andThen]; rfl), hK _ _ ?_⟩; clear hK Ko)
              | (go_at_call 53; refine (must_no _).mono ?_; rintro e w' ⟨rfl, rfl⟩)
          go_simp
          exact ⟨rfl, (KW.trans KE).drewN _, .inr ⟨fun t => P.out t.2, rfl⟩⟩
      · obtain rfl : k = m := by omega
        go_wp2
        exact bodyPost_end (v := .tuple #[]) (by simp [results, Try.results52]) rfl ⟨KW.trans K, .inl ⟨⟨rfl, HNO.out⟩, rfl⟩⟩
  · have q : ((m : Int) == (n : Int)) = false := by simp; omega
    go_enter Try.func52, Try.ntmps52
    go_wp2_with (go_at_call 53; refine (must_no _).mono ?_; rintro e w' ⟨rfl, rfl⟩)
    exact ⟨rfl, KW, .inr ⟨fun t => hmn t.1, rfl⟩⟩
end Go.Proofs.Ytomopfjaebcpeaa

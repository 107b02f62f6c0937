/- The document's Cut, Fits, Flows, Max. -/
import Derived.Test.YtfgkneoimgknmaaRfA
import Derived.Test.YtfgkneoimgknmaaPrG
namespace Go.Proofs.Ytfgkneoimgknmaa
open Go.RowKit

set_option maxRecDepth 100000 in
set_option linter.unusedSimpArgs false in
set_option maxHeartbeats 2000000 in
theorem cutR_calls (nodes : Int) (ao : Option Addr) (N n cap : Nat) (es : List Ed) (bo : Option Addr) (bc : Nat) (bs : List Bool) (w : World) (h : ERow w ao n cap es) (hB : BRow w bo N bc bs) (RG : Right N n es) :
    Calls Try.prog 56 #[.agg #[.int .i64 nodes, .slice ao n cap], .slice bo N bc] w fun e w' => e = .returned (.int .i64 (cutTo es (bAt bs) n)) ∧ Kept w w' := by
  have hr := h.room
  have hm := h.most
  have hr2 := hB.room
  have hm2 := hB.most
  unfold maxLen at hm hm2
  have hN := RG.nodes
  have hn := RG.edges
  have KW : Kept w (w.alloc (Obj.cells #[.int .i64 nodes, .slice ao n cap] 24)) := (Kept.refl w).alloc _
  have w1 : (w.alloc (Obj.cells #[.int .i64 nodes, .slice ao n cap] 24)).cell? ⟨w.heap.size, 1, none⟩ = some (.slice ao n cap) := by simp [go_sem]
  have HE := hid_of (h.kept KW)
  have HB := hid_of (hB.kept KW)
  have RGH := hid_of RG
  clear h hB RG
  go_enter Try.func56, Try.ntmps56
  go_wp2_with fail
  generalize w.alloc (Obj.cells #[.int .i64 nodes, .slice ao n cap] 24) = W1 at KW HE HB w1 ⊢
  go_loopw [5, 6] (fun s i wr => ∃ (k : Nat), k ≤ n ∧ i = .int .i64 k ∧ s = .int .i64 (cutTo es (bAt bs) k) ∧ W1 = wr) (fun _ i _ => n - (intOf i).toNat)
  case atStart => exact ⟨0, by omega, rfl, rfl, rfl⟩
  case round =>
    obtain ⟨k, hk, rfl, rfl, rfl⟩ := hrel
    by_cases hgo : (k : Int) < (n : Int)
    · obtain ⟨b, off, rfl, hc⟩ := HE.out.cell (by omega)
      obtain ⟨d1, d2, d3, d4⟩ := hc k (by omega)
      obtain ⟨e1, e2, e3, e4⟩ := RGH.out.ends k (by omega)
      obtain ⟨l1, l2⟩ := RGH.out.caps k (by omega)
      obtain ⟨s1, s2⟩ := cut_bd RGH.out (bAt bs) k hk
      obtain ⟨b2, off2, rfl, hc2⟩ := HB.out.at (by omega)
      have SU := hid_of (cut_succ es (bAt bs) k)
      have d5 := hc2 (edAt es k).f.toNat (by omega)
      have d6 := hc2 (edAt es k).t.toNat (by omega)
      clear hc hc2 HE HB
      generalize cutTo es (bAt bs) k = sum at s1 s2 SU
      generalize edAt es k = e at d1 d2 d3 d4 d5 d6 e1 e2 e3 e4 l1 l2 SU
      obtain ⟨ef, et, ec, ek⟩ := e
      simp only at d1 d2 d3 d4 d5 d6 e1 e2 e3 e4 l1 l2 SU
      obtain ⟨fn, rfl⟩ : ∃ fn : Nat, ef = (fn : Int) := ⟨ef.toNat, by omega⟩
      obtain ⟨tn, rfl⟩ : ∃ tn : Nat, et = (tn : Int) := ⟨et.toNat, by omega⟩
      simp only [Int.toNat_natCast] at d5 d6 SU
      generalize bAt bs fn = bf at d5 SU
      generalize bAt bs tn = bt at d6 SU
      have hnot : ∀ (x : Bool) (w : World), (Op.unary .not (.bool x)).run Try.prog w = .ok (.bool (!x)) w := fun _ _ => rfl
      cases bf <;> cases bt
      all_goals
        have SV := hid_of SU.out.symm
        simp only [cutT, Int.add_zero] at SV
        clear SU
        go_wp2_with fail
        go_roundw
        case rel => exact ⟨k + 1, by omega, by go_num, by rw [← SV.out], by trivial⟩
        case measure => simp [intOf]; omega
    · obtain rfl : k = n := by omega
      go_wp2
      go_ret
      exact ⟨rfl, KW⟩

/-- Amounts that fit, and go in and out alike but for these supplies. -/
def FitsAll (es : List Ed) (N n : Nat) (on : List Int) (m : Nat) (sup : Nat → Int) : Prop := FitsOn es on m n ∧ ∀ v : Nat, v < N → outTo es (zAt on) (v : Int) n = sup v

theorem FitsOn.small {N n m : Nat} {es : List Ed} {on : List Int} (RG : Right N n es) (h : FitsOn es on m n) : ∀ i, i < n → 0 ≤ zAt on i ∧ zAt on i ≤ 1048576 := fun i hi => by
  have h1 := h.2 i hi
  have h2 := RG.caps i hi
  omega

set_option maxRecDepth 100000 in
set_option linter.unusedSimpArgs false in
set_option maxHeartbeats 4000000 in
theorem fitsR_calls (ao : Option Addr) (N n cap : Nat) (es : List Ed) (bo : Option Addr) (m bc : Nat) (on : List Int) (so : Option Addr) (sc : Nat) (sup : List Int) (w : World) (h : ERow w ao n cap es) (hJ : JRow w bo m bc on) (hS : JRow w so N sc sup) (RG : Right N n es) :
    Calls Try.prog 33 #[.agg #[.int .i64 (N : Int), .slice ao n cap], .slice bo m bc, .slice so N sc] w fun e w' => Kept w w' ∧ ((FitsAll es N n on m (zAt sup) ∧ e = .returned (.bool true)) ∨ (¬ FitsAll es N n on m (zAt sup) ∧ e = .returned (.bool false))) := by
  have hr := h.room
  have hm := h.most
  have hr2 := hJ.room
  have hm2 := hJ.most
  have hr3 := hS.room
  have hm3 := hS.most
  unfold maxLen at hm hm2 hm3
  have hN := RG.nodes
  have hn := RG.edges
  have KW : Kept w (w.alloc (Obj.cells #[.int .i64 (N : Int), .slice ao n cap] 24)) := (Kept.refl w).alloc _
  have w0 : (w.alloc (Obj.cells #[.int .i64 (N : Int), .slice ao n cap] 24)).cell? ⟨w.heap.size, 0, none⟩ = some (.int .i64 (N : Int)) := by simp [go_sem]
  have w1 : (w.alloc (Obj.cells #[.int .i64 (N : Int), .slice ao n cap] 24)).cell? ⟨w.heap.size, 1, none⟩ = some (.slice ao n cap) := by simp [go_sem]
  have HE := hid_of (h.kept KW)
  have HJ := hid_of (hJ.kept KW)
  have HS := hid_of (hS.kept KW)
  have RGH := hid_of RG
  clear h hJ hS RG
  by_cases hmn : m = n
  rotate_left
  · have q : ((m : Int) != (n : Int)) = true := by simpa using fun e => hmn (by omega)
    go_enter Try.func33, Try.ntmps33
    go_wp2
    go_ret
    exact ⟨KW, .inr ⟨fun t => hmn t.1.1, rfl⟩⟩
  subst hmn
  have q : ((m : Int) != (m : Int)) = false := by simp
  go_enter Try.func33, Try.ntmps33
  go_wp2_with fail
  generalize w.alloc (Obj.cells #[.int .i64 (N : Int), .slice ao m cap] 24) = W1 at KW HE HJ HS w0 w1 ⊢
  go_loopw [7] (fun i wr => ∃ (k : Nat), k ≤ m ∧ i = .int .i64 k ∧ Kept W1 wr ∧ OnFits es (zAt on) k) (fun i _ => m - (intOf i).toNat)
  case atStart => exact ⟨0, by omega, rfl, Kept.refl _, fun i hi => by omega⟩
  case round =>
    obtain ⟨k, hk, rfl, K, hno⟩ := hrel
    have HNO := hid_of hno
    clear hno
    have v0 := K.cell w0
    have v1 := K.cell w1
    by_cases hgo : (k : Int) < (m : Int)
    · obtain ⟨b, off, rfl, hc⟩ := HE.out.cell (by omega)
      obtain ⟨d1, d2, d3, d4⟩ := hc k (by omega)
      obtain ⟨b2, off2, rfl, hc2⟩ := HJ.out.at (by omega)
      have d5 := hc2 k (by omega)
      replace d3 := K.cell d3
      replace d5 := K.cell d5
      clear hc hc2 HE HJ HS d1 d2 d4
      have HIT : Hid ((0 ≤ zAt on k ∧ zAt on k ≤ (edAt es k).c) → OnFits es (zAt on) (k + 1)) := fun hb i hi => by
        by_cases e : i = k
        · subst e; exact hb
        · exact HNO.out i (by omega)
      have MISS : Hid (¬ (0 ≤ zAt on k ∧ zAt on k ≤ (edAt es k).c) → ¬ FitsAll es N m on m (zAt sup)) := fun hb t => hb (t.1.2 k (by omega))
      generalize zAt on k = x at d5 HIT MISS
      generalize (edAt es k).c = ec at d3 HIT MISS
      by_cases hx : 0 ≤ x
      · have g1 : decide (x < 0) = false := by simpa using hx
        by_cases hy : x ≤ ec
        · have P := hid_of (HIT.out ⟨hx, hy⟩)
          have g2 : decide (ec < x) = false := by simpa using hy
          clear HIT MISS
          go_wp2_with fail
          refine Ord.region [(0, 0), (1, 0), (2, 0), (3, 1), (4, 0), (5, 0), (6, 0), (7, 0), (8, 0), (9, 1), (10, 0), (11, 1), (12, 0), (13, 0), (14, 0), (15, 1), (16, 0), (17, 0)] (fun w' => Kept wr w') (by kernel_rfl) (by kernel_rfl) (by kernel_rfl) (by kernel_rfl) (fun _ _ d _ _ h => by cases d <;> exact h) ((Kept.refl _).drewN _) ?_
          repeat
            refine Ord.step rfl (fun Ko hK => ?_)
            simp only [Ord.body]
            go_simp
            first
              | (refine hK _ _ ?_; clear hK Ko)
              | (refine ⟨_, fun w' hS => (by have c0 := hS.cell v0; have c1 := hS.cell v1; have c2 := hS.cell d3; have c3 := hS.cell d5; simp only [c0, c1, c2, c3, Result.andThen]; rfl), hK _ _ ?_⟩; clear hK Ko)
          refine Ord.done ?_
          go_wp2_with fail
          go_roundw
          case rel => exact ⟨k + 1, by omega, by go_num, K.drewN _, P.out⟩
          case measure => simp [intOf]; omega
        · have P := hid_of (MISS.out (fun t => hy t.2))
          have g2 : decide (ec < x) = true := by simp; omega
          clear HIT MISS
          go_wp2_with fail
          refine Ord.region [(0, 0), (1, 0), (2, 0), (3, 1), (4, 0), (5, 0), (6, 0), (7, 0), (8, 0), (9, 1), (10, 0), (11, 1), (12, 0), (13, 0), (14, 0), (15, 1), (16, 0), (17, 0)] (fun w' => Kept wr w') (by kernel_rfl) (by kernel_rfl) (by kernel_rfl) (by kernel_rfl) (fun _ _ d _ _ h => by cases d <;> exact h) ((Kept.refl _).drewN _) ?_
          repeat
            refine Ord.step rfl (fun Ko hK => ?_)
            simp only [Ord.body]
            go_simp
            first
              | (refine hK _ _ ?_; clear hK Ko)
              | (refine ⟨_, fun w' hS => (by have c0 := hS.cell v0; have c1 := hS.cell v1; have c2 := hS.cell d3; have c3 := hS.cell d5; simp only [c0, c1, c2, c3, Result.andThen]; rfl), hK _ _ ?_⟩; clear hK Ko)
          refine Ord.done ?_
          go_wp2_with fail
          go_ret
          exact ⟨(KW.trans K).drewN _, .inr ⟨P.out, rfl⟩⟩
      · have P := hid_of (MISS.out (fun t => hx t.1))
        have g1 : decide (x < 0) = true := by simp; omega
        clear HIT MISS
        go_wp2_with fail
        refine Ord.region [(0, 0), (1, 0), (2, 0), (3, 1), (4, 0), (5, 0), (6, 0), (7, 0), (8, 0), (9, 1), (10, 0), (11, 1), (12, 0), (13, 0), (14, 0), (15, 1), (16, 0), (17, 0)] (fun w' => Kept wr w') (by kernel_rfl) (by kernel_rfl) (by kernel_rfl) (by kernel_rfl) (fun _ _ d _ _ h => by cases d <;> exact h) ((Kept.refl _).drewN _) ?_
        repeat
          refine Ord.step rfl (fun Ko hK => ?_)
          simp only [Ord.body]
          go_simp
          first
            | (refine hK _ _ ?_; clear hK Ko)
            | (refine ⟨_, fun w' hS => (by have c0 := hS.cell v0; have c1 := hS.cell v1; have c2 := hS.cell d3; have c3 := hS.cell d5; simp only [c0, c1, c2, c3, Result.andThen]; rfl), hK _ _ ?_⟩; clear hK Ko)
        refine Ord.done ?_
        go_wp2_with fail
        go_ret
        exact ⟨(KW.trans K).drewN _, .inr ⟨P.out, rfl⟩⟩
    · obtain rfl : k = m := by omega
      have FIT : Hid (FitsOn es on k k) := ⟨rfl, HNO.out⟩
      have SM := hid_of (FIT.out.small RGH.out)
      have C := hid_of (fun (v : Int) (w' : World) (K' : Kept W1 w') => outR_calls (N : Int) ao k cap es bo k bc on v w' (HE.out.kept K') (HJ.out.kept K') (Nat.le_refl _))
      have HK := hid_of K
      clear K HNO v0 v1
      go_wp2_with fail
      go_loopw [8] (fun i w2 => ∃ (v : Nat), v ≤ N ∧ i = .int .i64 v ∧ Kept W1 w2 ∧ ∀ u : Nat, u < v → outTo es (zAt on) (u : Int) k = zAt sup u) (fun i _ => N - (intOf i).toNat)
      case atStart => exact ⟨0, by omega, rfl, HK.out, fun i hi => by omega⟩
      case round =>
        obtain ⟨v, hv, rfl, K, hno⟩ := hrel
        have HNO := hid_of hno
        clear hno
        have v0 := K.cell w0
        have v1 := K.cell w1
        by_cases hgo2 : (v : Int) < (N : Int)
        · obtain ⟨b3, off3, rfl, hc3⟩ := HS.out.at (by omega)
          have d1 := K.cell (hc3 v (by omega))
          clear hc3
          have HIT : Hid (outTo es (zAt on) (v : Int) k = zAt sup v → ∀ u : Nat, u < v + 1 → outTo es (zAt on) (u : Int) k = zAt sup u) := fun hb i hi => by
            by_cases e : i = v
            · subst e; exact hb
            · exact HNO.out i (by omega)
          have MISS : Hid (¬ outTo es (zAt on) (v : Int) k = zAt sup v → ¬ FitsAll es N k on k (zAt sup)) := fun hb t => hb (t.2 v (by omega))
          have C1 : Hid (∀ w', Kept wr w' → Calls Try.prog 31 #[.agg #[.int .i64 (N : Int), .slice ao k cap], .slice bo k bc, .int .i64 (v : Int)] w' fun e w2 => e = .returned (.int .i64 (outTo es (zAt on) (v : Int) k)) ∧ Kept w' w2) := fun w' K' => by
            have := C.out (v : Int) w' (K.trans K')
            rw [outWT_eq hn es (zAt on) SM.out (v : Int) k (Nat.le_refl _)] at this
            exact this
          generalize outTo es (zAt on) (v : Int) k = x at HIT MISS C1
          generalize zAt sup v = y at d1 HIT MISS
          clear HE HJ HS C
          by_cases hxy : x = y
          · have P := hid_of (HIT.out hxy)
            have q1 : (x != y) = false := by simp [hxy]
            clear HIT MISS hxy
            go_wp2_with fail
            refine Ord.region [(0, 1), (1, 0), (2, 0), (4, 0), (5, 0), (6, 0), (7, 1), (3, 2), (8, 0)] (fun w' => Kept wr w') (by kernel_rfl) (by kernel_rfl) (by kernel_rfl) (by kernel_rfl) (fun _ _ d _ _ h => by cases d <;> exact h) ((Kept.refl _).drewN _) ?_
            repeat
              refine Ord.step rfl (fun Ko hK => ?_)
              simp only [Ord.body]
              go_simp
              first
                | (refine hK _ _ ?_; clear hK Ko)
                | (refine ⟨_, fun w' hS => (by have c0 := hS.cell v0; have c1 := hS.cell v1; have c2 := hS.cell d1; simp only [c0, c1, c2, Result.andThen]; rfl), hK _ _ ?_⟩; clear hK Ko)
                | (go_at_call 31; refine (C1.out _ ((Kept.refl _).drewN _)).mono ?_; rintro e w5 ⟨rfl, K5⟩; refine ⟨((Kept.refl _).drewN _).trans K5, hK _ _ ?_⟩; clear hK Ko)
            refine Ord.done ?_
            have K6 := hid_of (K.trans (((Kept.refl wr).drewN 1).trans K5))
            clear K5 K v0 v1 d1 C1
            go_wp2_with fail
            go_roundw
            case rel => exact ⟨v + 1, by omega, by go_num, K6.out, P.out⟩
            case measure => simp [intOf]; omega
          · have P := hid_of (MISS.out hxy)
            have q1 : (x != y) = true := by simpa using hxy
            clear HIT MISS hxy
            go_wp2_with fail
            refine Ord.region [(0, 1), (1, 0), (2, 0), (4, 0), (5, 0), (6, 0), (7, 1), (3, 2), (8, 0)] (fun w' => Kept wr w') (by kernel_rfl) (by kernel_rfl) (by kernel_rfl) (by kernel_rfl) (fun _ _ d _ _ h => by cases d <;> exact h) ((Kept.refl _).drewN _) ?_
            repeat
              refine Ord.step rfl (fun Ko hK => ?_)
              simp only [Ord.body]
              go_simp
              first
                | (refine hK _ _ ?_; clear hK Ko)
                | (refine ⟨_, fun w' hS => (by have c0 := hS.cell v0; have c1 := hS.cell v1; have c2 := hS.cell d1; simp only [c0, c1, c2, Result.andThen]; rfl), hK _ _ ?_⟩; clear hK Ko)
                | (go_at_call 31; refine (C1.out _ ((Kept.refl _).drewN _)).mono ?_; rintro e w5 ⟨rfl, K5⟩; refine ⟨((Kept.refl _).drewN _).trans K5, hK _ _ ?_⟩; clear hK Ko)
            refine Ord.done ?_
            have K6 := hid_of (K.trans (((Kept.refl wr).drewN 1).trans K5))
            clear K5 K v0 v1 d1 C1
            go_wp2_with fail
            go_ret
            exact ⟨KW.trans K6.out, .inr ⟨P.out, rfl⟩⟩
        · obtain rfl : v = N := by omega
          go_wp2_with fail
          go_ret
          exact ⟨KW.trans K, .inl ⟨⟨FIT.out, HNO.out⟩, rfl⟩⟩
end Go.Proofs.Ytfgkneoimgknmaa

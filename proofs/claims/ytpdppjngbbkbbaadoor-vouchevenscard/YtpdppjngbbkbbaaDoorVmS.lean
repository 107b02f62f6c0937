/- One text of VmM, VmJ, VqA, VmP. -/
import Derived.Test.YtpdppjngbbkbbaaDoorVmB
import Derived.Test.YtpdppjngbbkbbaaDoorVmA
import Derived.Test.YtpdppjngbbkbbaaDoorVmG
import Derived.Test.YtpdppjngbbkbbaaDoorVpD
namespace Go.Proofs.YtpdppjngbbkbbaaDoor
open Go.RowKit

set_option maxRecDepth 100000 in
set_option linter.unusedSimpArgs false in
set_option maxHeartbeats 4000000 in
theorem weightsR_calls (N : Nat) (yo : Option Addr) (my yc : Nat) (Y : List Int) (so : Option Addr) (ns sc : Nat) (ss : Sets) (w : World) (hY : JRow w yo my yc Y) (hS : DRow w so ns sc ss) :
    Calls Tryd.prog 70 #[.int .i64 (N : Int), .agg #[.slice yo my yc, .slice so ns sc]] w fun r w' => Kept w w' ∧ ((WtsOk Y my ss ns N ∧ r = .returned (.bool true)) ∨ (¬ WtsOk Y my ss ns N ∧ r = .returned (.bool false))) := by
  have hnot : ∀ (x : Bool) (w : World), (Op.unary .not (.bool x)).run Tryd.prog w = .ok (.bool (!x)) w := fun _ _ => rfl
  have hr2 := hS.room
  have hm2 := hS.most
  unfold maxLen at hm2
  have KW : Kept w (w.alloc (Obj.cells #[.slice yo my yc, .slice so ns sc] 50)) := (Kept.refl w).alloc _
  have w0 : (w.alloc (Obj.cells #[.slice yo my yc, .slice so ns sc] 50)).cell? ⟨w.heap.size, 0, none⟩ = some (.slice yo my yc) := by simp [go_sem]
  have w1 : (w.alloc (Obj.cells #[.slice yo my yc, .slice so ns sc] 50)).cell? ⟨w.heap.size, 1, none⟩ = some (.slice so ns sc) := by simp [go_sem]
  have HY := hid_of hY
  have HS := hid_of hS
  clear hY hS
  go_enter Tryd.func70, Tryd.ntmps70
  go_wp2_with fail
  generalize w.alloc (Obj.cells #[.slice yo my yc, .slice so ns sc] 50) = W1 at KW w0 w1 ⊢
  refine (potsR_calls N (.slice none 0 0) yo my yc Y W1 (HY.out.kept KW)).mono ?_
  rintro e wa ⟨K1, ⟨ok, rfl⟩ | ⟨ok, rfl⟩⟩
  rotate_left
  · have HK := hid_of (KW.trans K1)
    clear KW K1 w0 w1
    go_wp2
    go_ret
    exact ⟨HK.out, .inr ⟨fun t => ok t.1, rfl⟩⟩
  replace w1 := K1.cell w1
  have HK := hid_of (KW.trans K1)
  have POK := hid_of ok
  clear K1 KW w0 ok
  by_cases hle : ns ≤ N
  rotate_left
  · have q : decide ((N : Int) < (ns : Int)) = true := decide_eq_true (by omega)
    go_wp2
    go_ret
    exact ⟨HK.out, .inr ⟨fun t => hle t.2.1, rfl⟩⟩
  have q : decide ((N : Int) < (ns : Int)) = false := decide_eq_false (by omega)
  have qN : decide (N < ns) = false := decide_eq_false (by omega)
  have W1H := hid_of w1
  go_wp2_with fail
  go_loopw [5, 6] (fun i _ wr => ∃ (k : Nat), k ≤ ns ∧ i = .int .i64 k ∧ Kept wa wr ∧ ∀ i, i < k → SetOk N (setAt ss i)) (fun i _ _ => ns - (intOf i).toNat)
  case atStart => exact ⟨0, by omega, rfl, Kept.refl _, fun i hi => by omega⟩
  case round =>
    obtain ⟨k, hk, rfl, K, hno⟩ := hrel
    have HNO := hid_of hno
    have KH := hid_of K
    have w1 := K.cell W1H.out
    clear hno
    by_cases hgo : (k : Int) < (ns : Int)
    · obtain ⟨b, off, rfl, hc⟩ := (HS.out.kept (HK.out.trans K)).cell (by omega)
      obtain ⟨no, nl, nc, c1, J, c2⟩ := hc k (by omega)
      have HIT : Hid (SetOk N (setAt ss k) → ∀ i, i < k + 1 → SetOk N (setAt ss i)) := fun hb i hi => by
        by_cases e : i = k
        · subst e; exact hb
        · exact HNO.out i (by omega)
      have MISS : Hid (¬ SetOk N (setAt ss k) → ¬ WtsOk Y my ss ns N) := fun hb t => hb (t.2.2 k (by omega))
      generalize setAt ss k = s at J c2 HIT MISS
      obtain ⟨nds, z⟩ := s
      simp only at J c2
      have HLN := hid_of J.len
      have hnr := J.room
      have hnm := J.most
      unfold maxLen at hnm
      have KB : Kept wr (wr.alloc (Obj.cells #[.slice no nl nc, .int .i64 z] 111)) := (Kept.refl wr).alloc _
      obtain ⟨eb, heb⟩ : ∃ eb, wr.heap.size = eb := ⟨_, rfl⟩
      have a0 : (wr.alloc (Obj.cells #[.slice no nl nc, .int .i64 z] 111)).cell? ⟨eb, 0, none⟩ = some (.slice no nl nc) := by simp [go_sem, ← heb]
      have a1 : (wr.alloc (Obj.cells #[.slice no nl nc, .int .i64 z] 111)).cell? ⟨eb, 1, none⟩ = some (.int .i64 z) := by simp [go_sem, ← heb]
      have J3 := hid_of (J.kept KB)
      have K3 := hid_of (KH.out.trans KB)
      clear hc J K
      go_upto_region 7 with fail
      generalize wr.alloc (Obj.cells #[.slice no nl nc, .int .i64 z] 111) = W3 at a0 a1 J3 K3 ⊢
      clear c1 c2 KB KH heb w1
      have MR := hid_of (risingR_calls no nl nc nds (N : Int) W3 J3.out)
      have hrm : ((nl : Int)).tmod 2 = ((nl % 2 : Nat) : Int) := by rw [Int.tmod_eq_emod_of_nonneg (by omega)]; omega
      obtain ⟨r, hr⟩ : ∃ r, nl % 2 = r := ⟨_, rfl⟩
      rw [hr] at hrm
      by_cases h3 : 3 ≤ nl
      rotate_left
      · have P := hid_of (MISS.out (fun t => h3 (by rw [HLN.out]; exact t.2.1.1)))
        have q3 : decide ((nl : Int) < 3) = true := decide_eq_true (by omega)
        have KF := hid_of (HK.out.trans K3.out)
        clear HIT MISS MR
        go_wp2
        go_ret
        exact ⟨KF.out, .inr ⟨P.out, rfl⟩⟩
      have q3 : decide ((nl : Int) < 3) = false := decide_eq_false (by omega)
      by_cases h1 : r = 0
      · have P := hid_of (MISS.out (fun t => by have h2 : nds.length % 2 = 1 := t.2.1.2; rw [← HLN.out] at h2; omega))
        have q4 : ((r : Int) == 0) = true := by rw [beq_iff_eq]; omega
        have KF := hid_of (HK.out.trans K3.out)
        clear HIT MISS MR
        go_wp2
        go_ret
        exact ⟨KF.out, .inr ⟨P.out, rfl⟩⟩
      have q4 : ((r : Int) == 0) = false := by rw [beq_eq_false_iff_ne]; omega
      have HR1 : Hid (nl % 2 = 1) := by show nl % 2 = 1; omega
      go_wp2_with fail
      refine MR.out.mono ?_
      rintro e w4 ⟨K4, ⟨ris, rfl⟩ | ⟨ris, rfl⟩⟩
      rotate_left
      · have KF := hid_of (HK.out.trans (K3.out.trans K4))
        have P := hid_of (MISS.out (fun t => ris (by rw [HLN.out]; exact t.1)))
        clear K4 MR a0 a1 HIT MISS
        go_wp2
        go_ret
        exact ⟨KF.out, .inr ⟨P.out, rfl⟩⟩
      replace a0 := K4.cell a0
      replace a1 := K4.cell a1
      have HK4 := hid_of (K3.out.trans K4)
      have RIS := hid_of ris
      clear K4 MR K3 J3 ris
      by_cases hz : 0 ≤ z
      rotate_left
      · have P := hid_of (MISS.out (fun t => hz t.2.2.1))
        have q5 : decide (z < 0) = true := decide_eq_true (by omega)
        have KF := hid_of (HK.out.trans HK4.out)
        clear HIT MISS
        go_wp2
        go_ret
        exact ⟨KF.out, .inr ⟨P.out, rfl⟩⟩
      have q5 : decide (z < 0) = false := decide_eq_false (by omega)
      by_cases hz2 : z ≤ 4398046511104
      rotate_left
      · have P := hid_of (MISS.out (fun t => hz2 t.2.2.2))
        have q6 : decide (4398046511104 < z) = true := decide_eq_true (by omega)
        have KF := hid_of (HK.out.trans HK4.out)
        clear HIT MISS
        go_wp2
        go_ret
        exact ⟨KF.out, .inr ⟨P.out, rfl⟩⟩
      have q6 : decide (4398046511104 < z) = false := decide_eq_false (by omega)
      have P := hid_of (HIT.out ⟨by rw [← HLN.out]; exact RIS.out, ⟨by rw [← HLN.out]; exact h3, by rw [← HLN.out]; exact HR1.out⟩, hz, hz2⟩)
      clear HIT MISS
      go_wp2_with fail
      go_roundw
      case rel => exact ⟨k + 1, by omega, by go_num, HK4.out, P.out⟩
      case measure => simp [intOf]; omega
    · obtain rfl : k = ns := by omega
      have KF := hid_of (HK.out.trans K)
      clear K KH
      go_wp2
      go_ret
      exact ⟨KF.out, .inl ⟨⟨POK.out, hle, HNO.out⟩, rfl⟩⟩

theorem pairOf_succ (Y : List Int) (ss : Sets) (k u v : Nat) : pairOf Y ss (k + 1) u v = if inTo (setAt ss k).1 (setAt ss k).1.length u && inTo (setAt ss k).1 (setAt ss k).1.length v then pairOf Y ss k u v - (setAt ss k).2 else pairOf Y ss k u v := by
  unfold pairOf
  rw [sm_succ]
  split <;> omega
theorem pairOf_bd {Y : List Int} {my ns N : Nat} {ss : Sets} (h : WtsOk Y my ss ns N) {u v : Nat} (hu : u < N) (hv : v < N) : ∀ k, k ≤ ns → -8796093022208 - 4398046511104 * (k : Int) ≤ pairOf Y ss k u v ∧ pairOf Y ss k u v ≤ 8796093022208 := by
  intro k
  induction k with
  | zero =>
    intro _
    have a := h.1.2 u hu
    have b := h.1.2 v hv
    simp only [pairOf, sm]
    omega
  | succ k ih =>
    intro hk
    have i := ih (by omega)
    have z := (h.2.2 k (by omega)).2.2
    rw [pairOf_succ]
    split <;> omega

set_option maxRecDepth 100000 in
set_option linter.unusedSimpArgs false in
set_option maxHeartbeats 4000000 in
theorem pairR_calls (N : Nat) (hN : N ≤ 1024) (yo : Option Addr) (my yc : Nat) (Y : List Int) (so : Option Addr) (ns sc : Nat) (ss : Sets) (u v : Nat) (hu : u < N) (hv : v < N) (w : World) (hY : JRow w yo my yc Y) (hS : DRow w so ns sc ss) (hW : WtsOk Y my ss ns N) :
    Calls Tryd.prog 71 #[.agg #[.slice yo my yc, .slice so ns sc], .int .i64 (u : Int), .int .i64 (v : Int)] w fun r w' => r = .returned (.int .i64 (pairOf Y ss ns u v)) ∧ Kept w w' := by
  have hns : ns ≤ 1024 := by have := hW.2.1; omega
  have hr2 := hS.room
  have hm2 := hS.most
  have hr3 := hY.room
  have hm3 := hY.most
  unfold maxLen at hm2 hm3
  obtain rfl : my = N := hW.1.1
  obtain ⟨b0, off0, rfl, hc0⟩ := hY.at (by omega)
  have KW : Kept w (w.alloc (Obj.cells #[.slice (some ⟨b0, off0, none⟩) my yc, .slice so ns sc] 50)) := (Kept.refl w).alloc _
  have w0 : (w.alloc (Obj.cells #[.slice (some ⟨b0, off0, none⟩) my yc, .slice so ns sc] 50)).cell? ⟨w.heap.size, 0, none⟩ = some (.slice (some ⟨b0, off0, none⟩) my yc) := by simp [go_sem]
  have w1 : (w.alloc (Obj.cells #[.slice (some ⟨b0, off0, none⟩) my yc, .slice so ns sc] 50)).cell? ⟨w.heap.size, 1, none⟩ = some (.slice so ns sc) := by simp [go_sem]
  have cu := KW.cell (hc0 u (by omega))
  have cv := KW.cell (hc0 v (by omega))
  obtain ⟨u1, u2⟩ := hW.1.2 u hu
  obtain ⟨v1, v2⟩ := hW.1.2 v hv
  have P0 : Hid (zAt Y u + zAt Y v = pairOf Y ss 0 u v) := by show _ = _; simp [pairOf, sm]
  have HS := hid_of hS
  have PBD := hid_of (pairOf_bd hW hu hv)
  have HW := hid_of hW
  clear hY hS hc0 hW
  generalize zAt Y u = x at cu u1 u2 P0
  generalize zAt Y v = y at cv v1 v2 P0
  have WR : IntKind.i64.wrap (x + y) = x + y := wrap_id (by omega) (by omega)
  go_enter Tryd.func71, Tryd.ntmps71
  go_upto_region 1 with fail
  generalize w.alloc (Obj.cells #[.slice (some ⟨b0, off0, none⟩) my yc, .slice so ns sc] 50) = W1 at KW w0 w1 cu cv ⊢
  have W1H := hid_of w1
  have KWH := hid_of KW
  clear KW
  refine Ord.region [(0, 0), (1, 1), (2, 0), (3, 0), (4, 1), (5, 0), (6, 1), (7, 0), (8, 0), (9, 1), (10, 0), (11, 0)] (fun w' => Kept W1 w') (by kernel_rfl) (by kernel_rfl) (by kernel_rfl) (by kernel_rfl) (fun _ _ d _ _ h => by cases d <;> exact h) ((Kept.refl _).drewN _) ?_
  repeat
    refine Ord.step rfl (fun Ko hK => ?_)
    simp only [Ord.body]
    go_simp
    first
      | (refine hK _ _ ?_; clear hK Ko)
      | (refine ⟨_, fun w' hS => (by have c0 := hS.cell w0; have c1 := hS.cell cu; have c2 := hS.cell cv; simp only [c0, c1, c2, Result.andThen]; rfl), hK _ _ ?_⟩; clear hK Ko)
  refine Ord.done ?_
  clear u1 u2 v1 v2 cu cv w0 w1
  have KD : Hid (Kept W1 (W1.drewN 1)) := (Kept.refl W1).drewN 1
  have w1 := KD.out.cell W1H.out
  rw [P0.out]
  go_wp2_with fail
  go_loopw [7, 8] (fun s i wr => ∃ (k : Nat), k ≤ ns ∧ i = .int .i64 k ∧ s = .int .i64 (pairOf Y ss k u v) ∧ Kept W1 wr) (fun _ i _ => ns - (intOf i).toNat)
  case atStart => exact ⟨0, by omega, rfl, rfl, KD.out⟩
  case round =>
    obtain ⟨k, hk, rfl, rfl, K⟩ := hrel
    have KH := hid_of K
    have w1 := K.cell W1H.out
    clear KD
    by_cases hgo : (k : Int) < (ns : Int)
    · obtain ⟨b, off, rfl, hc⟩ := (HS.out.kept (KWH.out.trans K)).cell (by omega)
      obtain ⟨no, nl, nc, c1, J, c2⟩ := hc k (by omega)
      obtain ⟨p1, p2⟩ := PBD.out k hk
      obtain ⟨z1, z2⟩ := (HW.out.2.2 k (by omega)).2.2
      have SU := hid_of (pairOf_succ Y ss k u v)
      generalize pairOf Y ss k u v = s0 at SU p1 p2 ⊢
      generalize setAt ss k = s at J c2 z1 z2 SU
      obtain ⟨nds, z⟩ := s
      simp only at J c2 z1 z2 SU
      rw [← J.len] at SU
      obtain ⟨bu, hbu⟩ : ∃ x, inTo nds nl u = x := ⟨_, rfl⟩
      obtain ⟨bv, hbv⟩ : ∃ x, inTo nds nl v = x := ⟨_, rfl⟩
      rw [hbu, hbv] at SU
      have CU := hid_of (hasR_calls no nl nc nds u bu (hid_of hbu) wr J)
      have CV := hid_of (fun w' (K' : Kept wr w') => hasR_calls no nl nc nds v bv (hid_of hbv) w' (J.kept K'))
      have WR3 : IntKind.i64.wrap (s0 - z) = s0 - z := wrap_id (by omega) (by omega)
      clear hc J K hbu hbv p1 p2 z1 z2
      go_wp2_with fail
      refine CU.out.mono ?_
      rintro e w3 ⟨rfl, K3⟩
      replace w1 := K3.cell w1
      replace c1 := K3.cell c1
      replace c2 := K3.cell c2
      have K3H := hid_of K3
      clear CU K3
      cases bu with
      | false =>
        have KN := hid_of (KH.out.trans K3H.out)
        have E : Hid (pairOf Y ss (k + 1) u v = s0) := by show _ = _; rw [SU.out]; simp
        clear SU CV K3H w1 c1 c2
        go_wp2_with fail
        go_roundw
        case rel => exact ⟨k + 1, by omega, by go_num, by rw [E.out], KN.out⟩
        case measure => simp [intOf]; omega
      | true =>
        go_wp2_with fail
        refine (CV.out w3 K3H.out).mono ?_
        rintro e w4 ⟨rfl, K4⟩
        replace w1 := K4.cell w1
        replace c2 := K4.cell c2
        have KN := hid_of (KH.out.trans (K3H.out.trans K4))
        clear CV K3H K4 c1
        cases bv with
        | false =>
          have E : Hid (pairOf Y ss (k + 1) u v = s0) := by show _ = _; rw [SU.out]; simp
          clear SU w1 c2
          go_wp2_with fail
          go_roundw
          case rel => exact ⟨k + 1, by omega, by go_num, by rw [E.out], KN.out⟩
          case measure => simp [intOf]; omega
        | true =>
          have E : Hid (pairOf Y ss (k + 1) u v = s0 - z) := by show _ = _; rw [SU.out]; simp
          clear SU
          go_wp2_with fail
          go_roundw
          case rel => exact ⟨k + 1, by omega, by go_num, by rw [E.out], KN.out⟩
          case measure => simp [intOf]; omega
    · obtain rfl : k = ns := by omega
      have KF := hid_of (KWH.out.trans K)
      clear K KH
      go_wp2
      go_ret
      exact ⟨rfl, KF.out⟩

set_option maxRecDepth 100000 in
set_option linter.unusedSimpArgs false in
set_option maxHeartbeats 4000000 in
theorem worthR_calls (N : Nat) (hN : N ≤ 1024) (yo : Option Addr) (my yc : Nat) (Y : List Int) (so : Option Addr) (ns sc : Nat) (ss : Sets) (w : World) (hY : JRow w yo my yc Y) (hS : DRow w so ns sc ss) (hW : WtsOk Y my ss ns N) :
    Calls Tryd.prog 72 #[.agg #[.slice yo my yc, .slice so ns sc]] w fun r w' => r = .returned (.int .i64 (worthOf Y my ss ns)) ∧ Kept w w' := by
  have hns : ns ≤ 1024 := by have := hW.2.1; omega
  have hmy : my ≤ 1024 := by have := hW.1.1; omega
  have hr2 := hS.room
  have hm2 := hS.most
  have hr3 := hY.room
  have hm3 := hY.most
  unfold maxLen at hm2 hm3
  have KW : Kept w (w.alloc (Obj.cells #[.slice yo my yc, .slice so ns sc] 50)) := (Kept.refl w).alloc _
  have w0 : (w.alloc (Obj.cells #[.slice yo my yc, .slice so ns sc] 50)).cell? ⟨w.heap.size, 0, none⟩ = some (.slice yo my yc) := by simp [go_sem]
  have w1 : (w.alloc (Obj.cells #[.slice yo my yc, .slice so ns sc] 50)).cell? ⟨w.heap.size, 1, none⟩ = some (.slice so ns sc) := by simp [go_sem]
  have HY := hid_of hY
  have HS := hid_of hS
  have HW := hid_of hW
  clear hY hS hW
  go_enter Tryd.func72, Tryd.ntmps72
  go_wp2_with fail
  generalize w.alloc (Obj.cells #[.slice yo my yc, .slice so ns sc] 50) = W1 at KW w0 w1 ⊢
  have KWH := hid_of KW
  have W1H := hid_of w1
  clear KW w1
  go_loopw [3, 4] (fun s i wr => ∃ (k : Nat), k ≤ my ∧ i = .int .i64 k ∧ s = .int .i64 (sm (zAt Y) k) ∧ W1 = wr) (fun _ i _ => my - (intOf i).toNat)
  case atStart => exact ⟨0, by omega, rfl, rfl, rfl⟩
  case round =>
    obtain ⟨k, hk, rfl, rfl, rfl⟩ := hrel
    by_cases hgo : (k : Int) < (my : Int)
    · obtain ⟨b, off, rfl, hc⟩ := (HY.out.kept KWH.out).at (by omega)
      have d := hc k (by omega)
      have hp := HW.out.1
      obtain ⟨p1, p2⟩ := hp.2 k (by have := hp.1; omega)
      obtain ⟨s1, s2⟩ := sm_bd (f := zAt Y) (k := k) (B := 4398046511104) (fun i hi => hp.2 i (by have := hp.1; omega))
      have SU := hid_of (sm_succ (zAt Y) k)
      generalize sm (zAt Y) k = s at SU s1 s2 ⊢
      generalize zAt Y k = y at d p1 p2 SU
      have WR : IntKind.i64.wrap (s + y) = s + y := wrap_id (by omega) (by omega)
      clear hc hp s1 s2 p1 p2
      go_wp2_with fail
      go_roundw
      case rel => exact ⟨k + 1, by omega, by go_num, by rw [SU.out], by trivial⟩
      case measure => simp [intOf]; omega
    · obtain rfl : k = my := by omega
      have W0 : Hid (sm (zAt Y) k = worthOf Y k ss 0) := by show _ = _; unfold worthOf; simp [sm]
      rw [W0.out]
      have w1 := W1H.out
      go_wp2_with fail
      go_loopw [3, 5, 6] (fun s i _ wr => ∃ (j : Nat), j ≤ ns ∧ i = .int .i64 j ∧ s = .int .i64 (worthOf Y k ss j) ∧ W1 = wr) (fun _ i _ _ => ns - (intOf i).toNat)
      case atStart => exact ⟨0, by omega, rfl, rfl, rfl⟩
      case round =>
        obtain ⟨j, hj, rfl, rfl, rfl⟩ := hrel
        by_cases hgo2 : (j : Int) < (ns : Int)
        · obtain ⟨b, off, rfl, hc⟩ := (HS.out.kept KWH.out).cell (by omega)
          obtain ⟨no, nl, nc, c1, J, c2⟩ := hc j (by omega)
          have SU := hid_of (worthOf_succ Y k ss j)
          obtain ⟨p1, p2⟩ := worthOf_bd hN HW.out j hj
          obtain ⟨⟨o3, o1⟩, z1, z2⟩ := (HW.out.2.2 j (by omega)).2
          have LL := (HW.out.2.2 j (by omega)).1.len_le
          unfold setHalf at SU
          generalize worthOf Y k ss j = s0 at SU p1 p2 ⊢
          generalize setAt ss j = sx at J c2 SU o3 o1 z1 z2 LL
          obtain ⟨nds, z⟩ := sx
          simp only at J c2 SU o3 o1 z1 z2 LL
          rw [← J.len] at SU o3 o1 LL
          have hnr := J.room
          have hnm := J.most
          unfold maxLen at hnm
          obtain ⟨hh, hhe⟩ : ∃ hh : Nat, nl / 2 = hh := ⟨_, rfl⟩
          rw [hhe] at SU
          have hnl : nl = 2 * hh + 1 := by omega
          have ZB := hid_of (fun c (hc : c ≤ hh) => (⟨Int.mul_nonneg z1 (by omega), by have := Int.mul_le_mul z2 (show (c : Int) ≤ 512 by omega) (by omega) (by omega); omega⟩ : 0 ≤ z * (c : Int) ∧ z * (c : Int) ≤ 2251799813685248))
          clear hc J hhe o3 o1
          go_wp2_with fail
          go_loopw [3, 6] (fun s i w2 => ∃ (c : Nat), c ≤ hh ∧ i = .int .i64 ((2 * c + 2 : Nat) : Int) ∧ s = .int .i64 (s0 - z * (c : Int)) ∧ W1 = w2) (fun _ i _ => 2 * hh + 2 - (intOf i).toNat)
          case atStart => exact ⟨0, by omega, rfl, by simp, rfl⟩
          case round =>
            obtain ⟨c, hcl, rfl, rfl, rfl⟩ := hrel
            obtain ⟨t1, t2⟩ := ZB.out c hcl
            by_cases hgo3 : c < hh
            · obtain ⟨t3, t4⟩ := ZB.out (c + 1) (by omega)
              have EZ : Hid (s0 - z * (c : Int) - z = s0 - z * ((c + 1 : Nat) : Int)) := by
                show _ = _
                rw [Int.natCast_add, Int.mul_add]
                simp
                omega
              have EZ2 := EZ.out
              generalize z * (c : Int) = zc at EZ EZ2 t1 t2 ⊢
              obtain ⟨zd, hzd⟩ : ∃ zd, z * ((c + 1 : Nat) : Int) = zd := ⟨_, rfl⟩
              rw [hzd] at EZ2 t3 t4
              have HZD := hid_of hzd
              clear hzd
              have WR : IntKind.i64.wrap (s0 - zc - z) = s0 - zd := by rw [wrap_id (by omega) (by omega)]; exact EZ2
              have qk : (((2 * c + 2 : Nat) : Int)) < (nl : Int) := by omega
              obtain ⟨kk, hkk⟩ : ∃ kk, 2 * c + 2 = kk := ⟨_, rfl⟩
              rw [hkk] at qk ⊢
              have HKK := hid_of hkk
              have WRK : IntKind.i64.wrap ((kk : Int) + 2) = (kk : Int) + 2 := wrap_id (by omega) (by omega)
              clear EZ EZ2 t1 t2 t3 t4 hkk
              go_wp2_with fail
              go_roundw
              case rel => exact ⟨c + 1, by omega, by have := HKK.out; go_num, by rw [HZD.out], by trivial⟩
              case measure => have := HKK.out; simp [intOf]; omega
            · obtain rfl : c = hh := by omega
              have qk : ¬ (((2 * c + 2 : Nat) : Int)) < (nl : Int) := by omega
              obtain ⟨kk, hkk⟩ : ∃ kk, 2 * c + 2 = kk := ⟨_, rfl⟩
              rw [hkk] at qk ⊢
              go_wp2_with fail
              go_roundw
              case rel => exact ⟨j + 1, by omega, by go_num, by rw [SU.out], by trivial⟩
              case measure => simp [intOf]; omega
        · obtain rfl : j = ns := by omega
          go_wp2
          go_ret
          exact ⟨rfl, KWH.out⟩
end Go.Proofs.YtpdppjngbbkbbaaDoor
namespace Go.Proofs.YtpdppjngbbkbbaaDoor
open Go.RowKit

theorem infoBR0 : (Tryd.prog.info? 111).map (fun i => (i.zero, i.size, i.bytes)) = some (some (.agg #[.slice none 0 0, .int .i64 0]), 2, 32) := by kernel_rfl
theorem infoBR : ∃ i : TypeInfo, Tryd.prog.info? 111 = some i ∧ i.zero = some (.agg #[.slice none 0 0, .int .i64 0]) ∧ i.size = 2 ∧ i.bytes = 32 := by
  have h := infoBR0
  cases e : Tryd.prog.info? 111 with
  | none => rw [e] at h; cases h
  | some i =>
    rw [e] at h
    simp only [Option.map_some, Option.some.injEq, Prod.mk.injEq] at h
    exact ⟨i, rfl, h.1, h.2.1, h.2.2⟩

/-- The head of a set, where it lies. -/
def hdOf (w : World) (so : Option Addr) (i : Nat) : Value :=
  match so with
  | some a => (w.cell? ⟨a.block, a.off + i * 2, none⟩).getD (.slice none 0 0)
  | none => .slice none 0 0
/-- The cells of the first k sets. -/
def dvals (hd : Nat → Value) (ss : Sets) : Nat → List Value
  | 0 => []
  | k + 1 => dvals hd ss k ++ [hd k, .int .i64 (setAt ss k).2]
theorem dvals_succ (hd : Nat → Value) (ss : Sets) (k : Nat) : dvals hd ss (k + 1) = dvals hd ss k ++ [hd k, .int .i64 (setAt ss k).2] := rfl
theorem dvals_len (hd : Nat → Value) (ss : Sets) (k : Nat) : (dvals hd ss k).length = k * 2 := by
  induction k with
  | zero => rfl
  | succ k ih => rw [dvals_succ, List.length_append, ih]; simp; omega
theorem dvals_get (hd : Nat → Value) (ss : Sets) {i : Nat} : ∀ k, i < k → (dvals hd ss k)[i * 2]? = some (hd i) ∧ (dvals hd ss k)[i * 2 + 1]? = some (.int .i64 (setAt ss i).2) := by
  intro k
  induction k with
  | zero => intro h; omega
  | succ k ih =>
    intro h
    have hl := dvals_len hd ss k
    rw [dvals_succ]
    by_cases e : i = k
    · subst e
      rw [List.getElem?_append_right (by omega), List.getElem?_append_right (by omega), hl]
      simp
    · rw [List.getElem?_append_left (by omega), List.getElem?_append_left (by omega)]
      exact ih (by omega)
theorem owns_slice2 {w : World} {base e : Nat} {v : Value} {n : Nat} {xs : List Value} (h : w.ownsRow base e 2 v n xs) : ∃ ao cap, v = .slice ao n cap := by
  rcases h.2 with ⟨rfl, rfl⟩ | ⟨g, cap, cur, rfl, _⟩
  · exact ⟨none, 0, rfl⟩
  · exact ⟨_, cap, rfl⟩
theorem cell_new2 (w : World) (T : TypeId) (u v : Value) : ∀ j u', ([u, v] : List Value)[j]? = some u' → (w.alloc (Obj.cells #[u, v] T)).cell? ((⟨w.heap.size, 0, none⟩ : Addr).add j) = some u' := by
  intro j u' h
  match j, h with
  | 0, h => simp at h; subst h; simp [go_sem, Addr.add]
  | 1, h => simp at h; subst h; simp [go_sem, Addr.add]
  | j + 2, h => simp at h
/-- The copied row is a row of the same sets. -/
theorem drow_of {w w' : World} {B e : Nat} {so qo : Option Addr} {ns sc qc : Nat} {ss : Sets} (hS : DRow w so ns sc ss) (K : Kept w w') (O : w'.ownsRow B e 2 (.slice qo ns qc) ns (dvals (hdOf w so) ss ns)) : DRow w' qo ns qc ss := by
  refine ⟨hS.len, ?_, ?_, fun hn => ?_⟩
  · rcases O.2 with ⟨h1, h2⟩ | ⟨g, cap, cur, h1, _, _, h4, _⟩
    · omega
    · simp only [Value.slice.injEq] at h1; omega
  · rcases O.2 with ⟨h1, h2⟩ | ⟨g, cap, cur, h1, _, _, _, h5, _⟩
    · simp only [Value.slice.injEq] at h1; unfold maxLen; omega
    · simp only [Value.slice.injEq] at h1; omega
  · rcases O.2 with ⟨h1, h2⟩ | ⟨g, cap, cur, h1, _⟩
    · omega
    · simp only [Value.slice.injEq] at h1
      obtain ⟨rfl, -, -⟩ := h1
      obtain ⟨b, off, rfl, hc⟩ := hS.cell hn
      refine ⟨g, 0, rfl, fun i hi => ?_⟩
      obtain ⟨no, nl, nc, c1, J, c2⟩ := hc i hi
      have hd : hdOf w (some ⟨b, off, none⟩) i = .slice no nl nc := by simp only [hdOf, c1, Option.getD_some]
      obtain ⟨g1, g2⟩ := dvals_get (hdOf w (some ⟨b, off, none⟩)) ss (i := i) ns hi
      have hl := dvals_len (hdOf w (some ⟨b, off, none⟩)) ss ns
      have x1 := O.cellAt (i * 2) (by omega)
      have x2 := O.cellAt (i * 2 + 1) (by omega)
      rw [g1, hd] at x1
      rw [g2] at x2
      rw [Nat.zero_add]
      exact ⟨no, nl, nc, x1, J.kept K, x2⟩

set_option maxRecDepth 100000 in
set_option linter.unusedSimpArgs false in
set_option maxHeartbeats 4000000 in
theorem plain_calls (yo : Option Addr) (my yc : Nat) (so : Option Addr) (ns sc : Nat) (ss : Sets) (w : World) (hS : DRow w so ns sc ss) (hb : ns * 32 ≤ 140737488355328) :
    Calls Tryd.prog 29 #[.agg #[.slice yo my yc, .slice so ns sc]] w fun r w' => ∃ qo qc, r = .returned (.agg #[.slice yo my yc, .slice qo ns qc]) ∧ DRow w' qo ns qc ss ∧ Kept w w' := by
  obtain ⟨i0, hi, hz0, hz1, hz2⟩ := infoBR
  have hr2 := hS.room
  have hm2 := hS.most
  unfold maxLen at hm2
  have KW : Kept w (((w.alloc (Obj.cells #[.slice yo my yc, .slice so ns sc] 45)).alloc (Obj.cells #[.slice none 0 0, .slice none 0 0] 50)).alloc (Obj.cells #[.slice yo my yc, .slice none 0 0] 50)) := (((Kept.refl w).alloc _).alloc _).alloc _
  have hsz : (((w.alloc (Obj.cells #[.slice yo my yc, .slice so ns sc] 45)).alloc (Obj.cells #[.slice none 0 0, .slice none 0 0] 50)).alloc (Obj.cells #[.slice yo my yc, .slice none 0 0] 50)).heap.size = w.heap.size + 3 := by simp
  have w1 : (((w.alloc (Obj.cells #[.slice yo my yc, .slice so ns sc] 45)).alloc (Obj.cells #[.slice none 0 0, .slice none 0 0] 50)).alloc (Obj.cells #[.slice yo my yc, .slice none 0 0] 50)).cell? ⟨w.heap.size, 1, none⟩ = some (.slice so ns sc) := by simp [go_sem]
  have f0 : (((w.alloc (Obj.cells #[.slice yo my yc, .slice so ns sc] 45)).alloc (Obj.cells #[.slice none 0 0, .slice none 0 0] 50)).alloc (Obj.cells #[.slice yo my yc, .slice none 0 0] 50)).cell? ⟨w.heap.size + 1, 0, none⟩ = some (.slice none 0 0) := by simp [go_sem]
  have f1 : (((w.alloc (Obj.cells #[.slice yo my yc, .slice so ns sc] 45)).alloc (Obj.cells #[.slice none 0 0, .slice none 0 0] 50)).alloc (Obj.cells #[.slice yo my yc, .slice none 0 0] 50)).cell? ⟨w.heap.size + 1, 1, none⟩ = some (.slice none 0 0) := by simp [go_sem]
  have f2 : ∀ o, (((w.alloc (Obj.cells #[.slice yo my yc, .slice so ns sc] 45)).alloc (Obj.cells #[.slice none 0 0, .slice none 0 0] 50)).alloc (Obj.cells #[.slice yo my yc, .slice none 0 0] 50)).frozen? ⟨w.heap.size + 1, o, none⟩ = false := fun o => by simp [go_sem]
  have s0 : (((w.alloc (Obj.cells #[.slice yo my yc, .slice so ns sc] 45)).alloc (Obj.cells #[.slice none 0 0, .slice none 0 0] 50)).alloc (Obj.cells #[.slice yo my yc, .slice none 0 0] 50)).cell? ⟨w.heap.size + 2, 0, none⟩ = some (.slice yo my yc) := by simp [go_sem]
  have s1 : (((w.alloc (Obj.cells #[.slice yo my yc, .slice so ns sc] 45)).alloc (Obj.cells #[.slice none 0 0, .slice none 0 0] 50)).alloc (Obj.cells #[.slice yo my yc, .slice none 0 0] 50)).cell? ⟨w.heap.size + 2, 1, none⟩ = some (.slice none 0 0) := by simp [go_sem]
  have s2 : (((w.alloc (Obj.cells #[.slice yo my yc, .slice so ns sc] 45)).alloc (Obj.cells #[.slice none 0 0, .slice none 0 0] 50)).alloc (Obj.cells #[.slice yo my yc, .slice none 0 0] 50)).frozen? ⟨w.heap.size + 2, 1, none⟩ = false := by simp [go_sem]
  have HS := hid_of hS
  clear hS
  go_enter Tryd.func29, Tryd.ntmps29
  go_wp2_with fail
  generalize ((w.alloc (Obj.cells #[.slice yo my yc, .slice so ns sc] 45)).alloc (Obj.cells #[.slice none 0 0, .slice none 0 0] 50)).alloc (Obj.cells #[.slice yo my yc, .slice none 0 0] 50) = W1 at KW hsz w1 f0 f1 f2 s0 s1 s2 ⊢
  have KWH := hid_of KW
  have HSZ := hid_of hsz
  have F0 := hid_of f0
  have F1 := hid_of f1
  have F2 := hid_of f2
  have O0 : Hid (W1.ownsRow W1.heap.size 111 2 (.slice none 0 0) 0 (dvals (hdOf w so) ss 0)) := World.ownsRow_nil _ _ _ _
  clear KW hsz f0 f1 f2
  go_loopw [5, 12] (fun _ i wr => ∃ (k : Nat) (qo : Option Addr) (qc : Nat), k ≤ ns ∧ i = .int .i64 k ∧ wr.cell? ⟨w.heap.size + 2, 0, none⟩ = some (.slice yo my yc) ∧ wr.cell? ⟨w.heap.size + 2, 1, none⟩ = some (.slice qo k qc) ∧ wr.frozen? ⟨w.heap.size + 2, 1, none⟩ = false ∧ wr.ownsRow W1.heap.size 111 2 (.slice qo k qc) k (dvals (hdOf w so) ss k) ∧ Kept w wr ∧ wr.cell? ⟨w.heap.size + 1, 0, none⟩ = some (.slice none 0 0) ∧ wr.cell? ⟨w.heap.size + 1, 1, none⟩ = some (.slice none 0 0) ∧ (∀ o, wr.frozen? ⟨w.heap.size + 1, o, none⟩ = false) ∧ W1.heap.size ≤ wr.heap.size) (fun _ i _ => ns - (intOf i).toNat)
  case atStart => exact ⟨0, none, 0, by omega, rfl, s0, s1, s2, O0.out, KWH.out, F0.out, F1.out, F2.out, Nat.le_refl _⟩
  case round =>
    obtain ⟨k, qo, qc, hk, rfl, s0, s1, s2, OR, K, f0, f1, f2, hB⟩ := hrel
    have KH := hid_of K
    have ORH := hid_of OR
    have F0 := hid_of f0
    have F1 := hid_of f1
    have F2 := hid_of f2
    have hsz := HSZ.out
    clear O0 OR f0 f1 f2
    by_cases hgo : (k : Int) < (ns : Int)
    · obtain ⟨b, off, hso, hc⟩ := HS.out.cell (by omega)
      obtain ⟨no, nl, nc, c1, J, c2⟩ := hc k (by omega)
      have HHD : Hid (dvals (hdOf w so) ss (k + 1) = dvals (hdOf w so) ss k ++ [.slice no nl nc, .int .i64 (setAt ss k).2]) := by
        show _ = _
        rw [dvals_succ, hso]
        simp only [hdOf, c1, Option.getD_some]
      replace c1 := K.cell c1
      replace c2 := K.cell c2
      generalize (setAt ss k).2 = z at c2 HHD
      subst hso
      have lp : w.heap.size + 2 < wr.heap.size := by omega
      have NW := cell_new2 (wr.alloc (Obj.cells #[.slice no nl nc, .int .i64 z] 110)) 111 (.slice no nl nc) (.int .i64 z)
      rw [show (wr.alloc (Obj.cells #[.slice no nl nc, .int .i64 z] 110)).heap.size = wr.heap.size + 1 by simp] at NW
      have HN := hid_of NW
      have HM := hid_of ((World.ownsRow.alloc ORH.out (Obj.cells #[.slice no nl nc, .int .i64 z] 110)).alloc (Obj.cells #[.slice no nl nc, .int .i64 z] 111))
      have KA := hid_of ((((Kept.refl wr).alloc (Obj.cells #[.slice no nl nc, .int .i64 z] 110)).alloc (Obj.cells #[.slice no nl nc, .int .i64 z] 111)))
      have S0 := hid_of s0
      have S1 := hid_of s1
      have S2 := hid_of s2
      clear hc J K NW
      go_wp2_with (at_builtin; refine wpList_append_own_at _ rfl _ _ 48 rfl W1.heap.size 111 i0 _ 2 32 Tryd.underlying48 hi hz0 hz1 hz2 rfl (by decide) _ _ _ rfl HM.out ⟨wr.heap.size + 1, 0, none⟩ 1 1 [.slice no nl nc, .int .i64 z] rfl rfl HN.out (by intro u hu; simp at hu; rcases hu with rfl | rfl <;> rfl) (by unfold maxLen; omega) (by omega) (by simp; omega) ?_)
      intro v' w5 own grow _ ha
      obtain ⟨qo', qc', rfl⟩ := owns_slice2 own
      have far : ∀ q, q < W1.heap.size → some q ≠ (Value.slice qo k qc).ownBlock := fun q hq e => by have := (ORH.out.lt q e.symm).1; omega
      have far' : ∀ q, q < W1.heap.size → some q ≠ (Value.slice qo' (k + 1) qc').ownBlock := fun q hq e => by have := (own.lt q e.symm).1; omega
      have b0 := grow.cell (KA.out.cell S0.out) (far (w.heap.size + 2) (by omega))
      have b1 := grow.cell (KA.out.cell S1.out) (far (w.heap.size + 2) (by omega))
      have b2 : w5.frozen? ⟨w.heap.size + 2, 1, none⟩ = false := (grow.frozen_far ⟨w.heap.size + 2, 1, none⟩ (by simp; omega) (far (w.heap.size + 2) (by omega))).trans ((Below.frozen (p := ⟨w.heap.size + 2, 1, none⟩) KA.out lp).trans S2.out)
      have e0 := grow.cell (KA.out.cell F0.out) (far (w.heap.size + 1) (by omega))
      have e1 := grow.cell (KA.out.cell F1.out) (far (w.heap.size + 1) (by omega))
      have e2 : ∀ o, w5.frozen? ⟨w.heap.size + 1, o, none⟩ = false := fun o => (grow.frozen_far ⟨w.heap.size + 1, o, none⟩ (by simp; omega) (far (w.heap.size + 1) (by omega))).trans ((Below.frozen (p := ⟨w.heap.size + 1, o, none⟩) KA.out (by simp only; omega)).trans (F2.out o))
      have own2 := own.kept (grown_setCell w5 ⟨w.heap.size + 2, 1, none⟩ (.slice qo' (k + 1) qc')) (.inr (Ne.symm (far' (w.heap.size + 2) (by omega))))
      have T0 : Hid ((w5.setCell ⟨w.heap.size + 2, 1, none⟩ (.slice qo' (k + 1) qc')).cell? ⟨w.heap.size + 2, 0, none⟩ = some (.slice yo my yc)) := by
        show _ = _
        rw [World.cell?_setCell_other _ _ _ _ (by simp)]; exact b0
      have T1 := hid_of (World.cell?_setCell_same w5 ⟨w.heap.size + 2, 1, none⟩ (.slice qo' (k + 1) qc') b1)
      have T2 : Hid ((w5.setCell ⟨w.heap.size + 2, 1, none⟩ (.slice qo' (k + 1) qc')).frozen? ⟨w.heap.size + 2, 1, none⟩ = false) := by
        show _ = _
        simpa [go_sem] using b2
      have T3 : Hid ((w5.setCell ⟨w.heap.size + 2, 1, none⟩ (.slice qo' (k + 1) qc')).ownsRow W1.heap.size 111 2 (.slice qo' (k + 1) qc') (k + 1) (dvals (hdOf w (some ⟨b, off, none⟩)) ss (k + 1))) := by
        rw [HHD.out, HSZ.out]; exact own2
      have T4 : Hid (Kept w (w5.setCell ⟨w.heap.size + 2, 1, none⟩ (.slice qo' (k + 1) qc'))) := (Below.grown (KH.out.trans KA.out) grow (KH.out.trans KA.out).size (fun j hj => by have := (ORH.out.lt j hj).1; omega)).setCell (p := ⟨w.heap.size + 2, 1, none⟩) (by simp) _
      have T5 := hid_of (cell_put (i := 1) (u := .slice qo' (k + 1) qc') e0 (by omega : ¬ w.heap.size + 1 = w.heap.size + 2))
      have T6 := hid_of (cell_put (i := 1) (u := .slice qo' (k + 1) qc') e1 (by omega : ¬ w.heap.size + 1 = w.heap.size + 2))
      have T7 : Hid (∀ o, (w5.setCell ⟨w.heap.size + 2, 1, none⟩ (.slice qo' (k + 1) qc')).frozen? ⟨w.heap.size + 1, o, none⟩ = false) := fun o => by simpa [go_sem] using e2 o
      have T8 : Hid (W1.heap.size ≤ (w5.setCell ⟨w.heap.size + 2, 1, none⟩ (.slice qo' (k + 1) qc')).heap.size) := by
        have h1 := grow.size
        have h2 := KA.out.size
        have h3 : (w5.setCell ⟨w.heap.size + 2, 1, none⟩ (.slice qo' (k + 1) qc')).heap.size = w5.heap.size := by simp
        show W1.heap.size ≤ _
        rw [h3]
        omega
      clear own grow ha HN HM KA S0 S1 S2 c1 c2 e0 e1 e2 own2 far far' b0 s0 s1 s2 F0 F1 F2 KH ORH
      go_wp2_with fail
      go_roundw
      case rel => exact ⟨k + 1, qo', qc', by omega, by go_num, T0.out, T1.out, T2.out, T3.out, T4.out, T5.out, T6.out, T7.out, T8.out⟩
      case measure => simp [intOf]; omega
    · obtain rfl : k = ns := by omega
      have f0 := F0.out
      have f1 := F1.out
      have f2 := F2.out 0
      have f3 := F2.out 1
      obtain ⟨t1, t2, t3, t4⟩ := box2w f0 f1 (.slice yo my yc) (.slice qo k qc)
      have hlt : w.heap.size + 1 < W1.heap.size := by omega
      have O2 := ownsRow_setCell_below (ownsRow_setCell_below ORH.out (a := ⟨w.heap.size + 1, 0, none⟩) hlt (.slice yo my yc)) (a := ⟨w.heap.size + 1, 1, none⟩) hlt (.slice qo k qc)
      have KK := (KH.out.setCell (p := ⟨w.heap.size + 1, 0, none⟩) (by simp) (.slice yo my yc)).setCell (p := ⟨w.heap.size + 1, 1, none⟩) (by simp) (.slice qo k qc)
      have DD := hid_of (drow_of HS.out KK O2)
      have KKH := hid_of KK
      clear O2 KK K w1
      go_wp2
      refine bodyPost_ret (v := .agg #[.slice yo my yc, .slice qo k qc]) (by simp [results, Tryd.results29, go_sem, t3, t4]) rfl ⟨qo, qc, rfl, DD.out, KKH.out⟩
end Go.Proofs.YtpdppjngbbkbbaaDoor
namespace Go.Proofs.YtpdppjngbbkbbaaDoor
open Go.RowKit

theorem chpAns_mat {nodes : Int} {es : List Ed} {n : Nat} {m : List Int} {lm : Nat} {Y : List Int} {my : Nat} {ss : Sets} {ns : Nat} (h : matAns nodes es n m lm ≠ 0) : chpAns nodes es n m lm Y my ss ns = (0, matAns nodes es n m lm) := by
  unfold matAns at h ⊢
  unfold chpAns
  split
  · rfl
  · rename_i t
    rw [if_neg t] at h
    split at h
    · omega
    · rename_i u
      rw [if_neg (fun v => u v.1), if_neg u]

set_option maxRecDepth 100000 in
set_option linter.unusedSimpArgs false in
set_option maxHeartbeats 4000000 in
theorem cheapestR_calls (nodes : Int) (ao : Option Addr) (n cap : Nat) (es : List Ed) (mo : Option Addr) (lm mc : Nat) (m : List Int) (yo : Option Addr) (my yc : Nat) (Y : List Int) (so : Option Addr) (ns sc : Nat) (ss : Sets) (w : World) (h : ERow w ao n cap es) (hJ : JRow w mo lm mc m) (hY : JRow w yo my yc Y) (hS : DRow w so ns sc ss) (v code : Int) (hans : Hid (chpAns nodes es n m lm Y my ss ns = (v, code))) :
    Calls Tryd.prog 28 #[.agg #[.int .i64 nodes, .slice ao n cap], .slice mo lm mc, .agg #[.slice yo my yc, .slice so ns sc]] w fun e w' => e = .returned (.tuple #[.int .i64 v, .int .i64 code]) ∧ Kept w w' := by
  have hnot : ∀ (x : Bool) (w : World), (Op.unary .not (.bool x)).run Tryd.prog w = .ok (.bool (!x)) w := fun _ _ => rfl
  obtain ⟨z, A3⟩ : ∃ z, matAns nodes es n m lm = z := ⟨_, rfl⟩
  have hr0 := h.room
  have hm0 := h.most
  have hr1 := hJ.room
  have hm1 := hJ.most
  unfold maxLen at hm0 hm1
  have KW : Kept w ((w.alloc (Obj.cells #[.int .i64 nodes, .slice ao n cap] 24)).alloc (Obj.cells #[.slice yo my yc, .slice so ns sc] 50)) := ((Kept.refl w).alloc _).alloc _
  have w0 : ((w.alloc (Obj.cells #[.int .i64 nodes, .slice ao n cap] 24)).alloc (Obj.cells #[.slice yo my yc, .slice so ns sc] 50)).cell? ⟨w.heap.size, 0, none⟩ = some (.int .i64 nodes) := by simp [go_sem]
  have w1 : ((w.alloc (Obj.cells #[.int .i64 nodes, .slice ao n cap] 24)).alloc (Obj.cells #[.slice yo my yc, .slice so ns sc] 50)).cell? ⟨w.heap.size, 1, none⟩ = some (.slice ao n cap) := by simp [go_sem]
  have y0 : ((w.alloc (Obj.cells #[.int .i64 nodes, .slice ao n cap] 24)).alloc (Obj.cells #[.slice yo my yc, .slice so ns sc] 50)).cell? ⟨w.heap.size + 1, 0, none⟩ = some (.slice yo my yc) := by simp [go_sem]
  have y1 : ((w.alloc (Obj.cells #[.int .i64 nodes, .slice ao n cap] 24)).alloc (Obj.cells #[.slice yo my yc, .slice so ns sc] 50)).cell? ⟨w.heap.size + 1, 1, none⟩ = some (.slice so ns sc) := by simp [go_sem]
  have HE := hid_of h
  have HJ := hid_of hJ
  have HY := hid_of hY
  have HS := hid_of hS
  have HA3 := hid_of A3
  clear h hJ hY hS A3
  go_enter Tryd.func28, Tryd.ntmps28
  go_wp2_with fail
  generalize (w.alloc (Obj.cells #[.int .i64 nodes, .slice ao n cap] 24)).alloc (Obj.cells #[.slice yo my yc, .slice so ns sc] 50) = W1 at KW w0 w1 y0 y1 ⊢
  refine (matchingR_calls nodes ao n cap es mo lm mc m W1 (HE.out.kept KW) (HJ.out.kept KW) z HA3).mono ?_
  rintro e wa ⟨rfl, K1⟩
  have K := hid_of (KW.trans K1)
  replace w0 := K1.cell w0
  replace w1 := K1.cell w1
  replace y0 := K1.cell y0
  replace y1 := K1.cell y1
  clear K1 KW
  by_cases hz : z = 0
  rotate_left
  · have e := hans.out
    rw [chpAns_mat (by rw [HA3.out]; exact hz), HA3.out] at e
    obtain ⟨rfl, rfl⟩ := Prod.mk.inj e
    have q : (z != 0) = true := by simpa using hz
    clear hz e hans HA3 w0 w1 y0 y1
    go_wp2
    go_ret2
    exact ⟨rfl, K.out⟩
  subst hz
  obtain ⟨hf, MOK⟩ := matAns_ok HA3.out
  obtain ⟨N, rfl, RG⟩ := right_of (fault_zero hf)
  rw [← HE.out.len] at RG
  have hN := RG.nodes
  have hn := RG.edges
  have RGH := hid_of RG
  have MH := hid_of MOK
  have lmb : lm ≤ 4096 := by have := MOK.1.len_le; omega
  have ANS : Hid ((ChpOk es N n m lm Y my ss ns → v = csum es m lm ∧ code = 0) ∧ (¬ ChpOk es N n m lm Y my ss ns → v = 0 ∧ code = 221)) := by
    have e := hans.out
    unfold chpAns at e
    rw [if_neg (by simp [hf]), Int.toNat_natCast] at e
    refine ⟨fun t => ?_, fun t => ?_⟩
    · rw [if_pos t] at e
      obtain ⟨rfl, rfl⟩ := Prod.mk.inj e
      exact ⟨rfl, rfl⟩
    · rw [if_neg t] at e
      obtain ⟨rfl, rfl⟩ := Prod.mk.inj e
      exact ⟨rfl, rfl⟩
  have NO : Hid (¬ ChpOk es N n m lm Y my ss ns → v = 0 ∧ code = 221) := ANS.out.2
  have WRL : IntKind.i64.wrap ((lm : Int) + (lm : Int)) = (lm : Int) + (lm : Int) := wrap_id (by omega) (by omega)
  clear hans hf MOK RG HA3
  by_cases h2 : 2 * lm = N
  rotate_left
  · obtain ⟨rfl, rfl⟩ := NO.out (fun t => h2 t.2.1)
    have q : ((lm : Int) + (lm : Int) != (N : Int)) = true := by simp; omega
    clear ANS NO
    go_wp2
    go_ret2
    exact ⟨rfl, K.out⟩
  have q : ((lm : Int) + (lm : Int) != (N : Int)) = false := by simp; omega
  have H2 := hid_of h2
  clear h2
  go_wp2_with fail
  refine (weightsR_calls N yo my yc Y so ns sc ss wa (HY.out.kept K.out) (HS.out.kept K.out)).mono ?_
  rintro e wb ⟨K2, ⟨wok, rfl⟩ | ⟨wok, rfl⟩⟩
  rotate_left
  · obtain ⟨rfl, rfl⟩ := NO.out (fun t => wok t.2.2.1)
    replace K := hid_of (K.out.trans K2)
    clear K2 w0 w1 y0 y1 wok ANS NO
    go_wp2
    go_ret2
    exact ⟨rfl, K.out⟩
  have KB := hid_of (K.out.trans K2)
  have W0H := hid_of (K2.cell w0)
  have W1H := hid_of (K2.cell w1)
  have Y0H := hid_of (K2.cell y0)
  have Y1H := hid_of (K2.cell y1)
  have WOK := hid_of wok
  have w1 := W1H.out
  clear K2 wok K w0 y0 y1
  go_wp2_with fail
  go_loopw [9, 10] (fun i _ w2 => ∃ (j : Nat), j ≤ n ∧ i = .int .i64 j ∧ Kept wb w2 ∧ ∀ q, q < j → lp es q = true ∨ Within (pairOf Y ss ns (edAt es q).f.toNat (edAt es q).t.toNat) (2 * (edAt es q).k)) (fun i _ _ => n - (intOf i).toNat)
  case atStart => exact ⟨0, by omega, rfl, Kept.refl _, fun i hi => by omega⟩
  case round =>
    obtain ⟨j, hj, rfl, K, hno⟩ := hrel
    have HNO := hid_of hno
    have KH := hid_of K
    have w1 := K.cell W1H.out
    have y0 := K.cell Y0H.out
    have y1 := K.cell Y1H.out
    clear hno
    by_cases hgo2 : (j : Int) < (n : Int)
    · obtain ⟨b, off, rfl, hc⟩ := (HE.out.kept (KB.out.trans K)).cell (by omega)
      obtain ⟨d1, d2, d3, d4⟩ := hc j (by omega)
      obtain ⟨e1, e2, e3, e4⟩ := RGH.out.ends j (by omega)
      obtain ⟨l1, l2⟩ := RGH.out.costs j (by omega)
      have HIT : Hid ((lp es j = true ∨ Within (pairOf Y ss ns (edAt es j).f.toNat (edAt es j).t.toNat) (2 * (edAt es j).k)) → ∀ q, q < j + 1 → lp es q = true ∨ Within (pairOf Y ss ns (edAt es q).f.toNat (edAt es q).t.toNat) (2 * (edAt es q).k)) := fun hb i hi => by
        by_cases e : i = j
        · subst e; exact hb
        · exact HNO.out i (by omega)
      have MISS : Hid (¬ (lp es j = true ∨ Within (pairOf Y ss ns (edAt es j).f.toNat (edAt es j).t.toNat) (2 * (edAt es j).k)) → ¬ ChpOk es N n m lm Y my ss ns) := fun hb t => hb (t.2.2.2.1 j (by omega))
      unfold lp at HIT MISS
      generalize edAt es j = e at d1 d2 d3 d4 e1 e2 e3 e4 l1 l2 HIT MISS
      obtain ⟨ef, et, ec, ek⟩ := e
      simp only at d1 d2 d3 d4 e1 e2 e3 e4 l1 l2 HIT MISS
      obtain ⟨f, rfl⟩ : ∃ f : Nat, ef = (f : Int) := ⟨ef.toNat, by omega⟩
      obtain ⟨t, rfl⟩ : ∃ t : Nat, et = (t : Int) := ⟨et.toNat, by omega⟩
      simp only [Int.toNat_natCast] at HIT MISS
      have hfN : f < N := by omega
      have htN : t < N := by omega
      have WR : IntKind.i64.wrap (ek + ek) = ek + ek := wrap_id (by omega) (by omega)
      have PC := hid_of (fun w' (K' : Kept wr w') => pairR_calls N hN yo my yc Y so ns sc ss f t hfN htN w' (HY.out.kept (KB.out.trans (K.trans K'))) (HS.out.kept (KB.out.trans (K.trans K'))) WOK.out)
      obtain ⟨pr, hpr⟩ : ∃ pr, pairOf Y ss ns f t = pr := ⟨_, rfl⟩
      rw [hpr] at HIT MISS PC
      clear hc K hpr e1 e2 e3 e4
      go_upto_region 10 with fail
      generalize hW : wr.alloc (Obj.cells #[.int .i64 (f : Int), .int .i64 (t : Int), .int .i64 ec, .int .i64 ek] 86) = W3
      obtain ⟨EK, a0, a1, a2, a3, -⟩ := edge_box hW
      replace y0 := EK.cell y0
      replace y1 := EK.cell y1
      have PC3 := hid_of (fun w' (K' : Kept W3 w') => PC.out w' (EK.trans K'))
      have K3 := hid_of (KH.out.trans EK)
      clear d1 d2 d3 d4 EK KH hW a2 w1 PC
      by_cases hft : f = t
      · have hq : ((f : Int) != (t : Int)) = false := by simp; omega
        have P := hid_of (HIT.out (.inl (by rw [beq_iff_eq]; omega)))
        clear HIT MISS hft PC3
        refine Ord.region [(0, 0), (1, 1), (2, 0), (3, 1), (4, 0), (5, 0), (6, 1), (7, 0), (8, 1), (9, 0), (10, 1), (12, 0), (13, 1), (14, 0), (15, 1), (16, 0), (11, 2), (17, 0), (18, 0)] (fun w' => Kept W3 w') (by kernel_rfl) (by kernel_rfl) (by kernel_rfl) (by kernel_rfl) (fun _ _ d _ _ h => by cases d <;> exact h) ((Kept.refl _).drewN _) ?_
        repeat
          refine Ord.step rfl (fun Ko hK => ?_)
          simp only [Ord.body]
          go_simp
          first
            | (refine hK _ _ ?_; clear hK Ko)
            | (refine ⟨_, fun w' hS => (by have c0 := hS.cell a0; have c1 := hS.cell a1; have c2 := hS.cell a3; have c3 := hS.cell y0; have c4 := hS.cell y1; simp only [c0, c1, c2, c3, c4, Result.andThen]; rfl), hK _ _ ?_⟩; clear hK Ko)
            | ((simp only [hq]))
        refine Ord.done ?_
        have KN := hid_of (K3.out.trans ((Kept.refl _).drewN 1))
        clear a0 a1 a3 y0 y1
        go_wp2_with fail
        go_roundw
        case rel => exact ⟨j + 1, by omega, by go_num, KN.out, P.out⟩
        case measure => simp [intOf]; omega
      · have hq : ((f : Int) != (t : Int)) = true := by simp; omega
        by_cases hle : pr ≤ 2 * ek
        · have qd : decide (ek + ek < pr) = false := decide_eq_false (by omega)
          have P := hid_of (HIT.out (.inr hle))
          clear HIT MISS hft hle
          refine Ord.region [(0, 0), (1, 1), (2, 0), (3, 1), (4, 0), (5, 0), (6, 1), (7, 0), (8, 1), (9, 0), (10, 1), (12, 0), (13, 1), (14, 0), (15, 1), (16, 0), (11, 2), (17, 0), (18, 0)] (fun w' => Kept W3 w') (by kernel_rfl) (by kernel_rfl) (by kernel_rfl) (by kernel_rfl) (fun _ _ d _ _ h => by cases d <;> exact h) ((Kept.refl _).drewN _) ?_
          repeat
            refine Ord.step rfl (fun Ko hK => ?_)
            simp only [Ord.body]
            go_simp
            first
              | (refine hK _ _ ?_; clear hK Ko)
              | (refine ⟨_, fun w' hS => (by have c0 := hS.cell a0; have c1 := hS.cell a1; have c2 := hS.cell a3; have c3 := hS.cell y0; have c4 := hS.cell y1; simp only [c0, c1, c2, c3, c4, Result.andThen]; rfl), hK _ _ ?_⟩; clear hK Ko)
              | (go_at_call 71; refine (PC3.out _ ((Kept.refl _).drewN _)).mono ?_; clear PC3; rintro e w5 ⟨rfl, K5⟩; refine ⟨((Kept.refl _).drewN _).trans K5, hK _ _ ?_⟩; clear hK Ko)
              | ((simp only [WR, hq, qd]))
          refine Ord.done ?_
          have KN := hid_of (K3.out.trans (((Kept.refl _).drewN 1).trans K5))
          clear a0 a1 a3 y0 y1 K5
          go_wp2_with fail
          go_roundw
          case rel => exact ⟨j + 1, by omega, by go_num, KN.out, P.out⟩
          case measure => simp [intOf]; omega
        · obtain ⟨rfl, rfl⟩ := NO.out (MISS.out (fun u => by
            rcases u with u | u
            · rw [beq_iff_eq] at u; omega
            · exact hle u))
          have qd : decide (ek + ek < pr) = true := decide_eq_true (by omega)
          clear HIT MISS hft hle
          refine Ord.region [(0, 0), (1, 1), (2, 0), (3, 1), (4, 0), (5, 0), (6, 1), (7, 0), (8, 1), (9, 0), (10, 1), (12, 0), (13, 1), (14, 0), (15, 1), (16, 0), (11, 2), (17, 0), (18, 0)] (fun w' => Kept W3 w') (by kernel_rfl) (by kernel_rfl) (by kernel_rfl) (by kernel_rfl) (fun _ _ d _ _ h => by cases d <;> exact h) ((Kept.refl _).drewN _) ?_
          repeat
            refine Ord.step rfl (fun Ko hK => ?_)
            simp only [Ord.body]
            go_simp
            first
              | (refine hK _ _ ?_; clear hK Ko)
              | (refine ⟨_, fun w' hS => (by have c0 := hS.cell a0; have c1 := hS.cell a1; have c2 := hS.cell a3; have c3 := hS.cell y0; have c4 := hS.cell y1; simp only [c0, c1, c2, c3, c4, Result.andThen]; rfl), hK _ _ ?_⟩; clear hK Ko)
              | (go_at_call 71; refine (PC3.out _ ((Kept.refl _).drewN _)).mono ?_; clear PC3; rintro e w5 ⟨rfl, K5⟩; refine ⟨((Kept.refl _).drewN _).trans K5, hK _ _ ?_⟩; clear hK Ko)
              | ((simp only [WR, hq, qd]))
          refine Ord.done ?_
          have KN := hid_of (KB.out.trans (K3.out.trans (((Kept.refl _).drewN 1).trans K5)))
          clear a0 a1 a3 y0 y1 K5
          go_wp2
          go_ret2
          exact ⟨rfl, KN.out⟩
    · obtain rfl : j = n := by omega
      have w0 := K.cell W0H.out
      have KF := hid_of (KB.out.trans K)
      have CO := hid_of (costR_calls (N : Int) N ao j cap es mo lm mc m wr (HE.out.kept KF.out) (HJ.out.kept KF.out) RGH.out (fun i hi => MH.out.1.rng hi) lmb)
      have WC := hid_of (fun w' (K' : Kept wr w') => worthR_calls N hN yo my yc Y so ns sc ss w' (HY.out.kept (KF.out.trans K')) (HS.out.kept (KF.out.trans K')) WOK.out)
      have DDEF : Hid (ChpOk es N j m lm Y my ss ns ↔ worthOf Y my ss ns = 2 * csum es m lm) := ⟨fun t => t.2.2.2.2, fun t => ⟨MH.out, H2.out, WOK.out, HNO.out, t⟩⟩
      obtain ⟨cb1, cb2⟩ := csum_bd RGH.out (fun i hi => MH.out.1.rng hi) lm (Nat.le_refl _)
      obtain ⟨S, hS⟩ : ∃ S, csum es m lm = S := ⟨_, rfl⟩
      obtain ⟨Q, hQ⟩ : ∃ Q, worthOf Y my ss ns = Q := ⟨_, rfl⟩
      rw [hS, hQ] at DDEF
      rw [hS] at CO ANS cb1 cb2
      rw [hQ] at WC
      have WRS : IntKind.i64.wrap (S + S) = S + S := wrap_id (by omega) (by omega)
      clear K hS hQ cb1 cb2
      go_wp2_with fail
      refine CO.out.mono ?_
      rintro e wf ⟨rfl, K9⟩
      have KN := hid_of (KF.out.trans K9)
      replace y0 := K9.cell y0
      replace y1 := K9.cell y1
      have WC2 := hid_of (WC.out wf K9)
      clear K9 w0 w1 CO WC
      go_wp2_with fail
      refine WC2.out.mono ?_
      rintro e wg ⟨rfl, K10⟩
      have KG := hid_of (KN.out.trans K10)
      clear K10 WC2 y0 y1
      by_cases he : Q = S + S
      · obtain ⟨rfl, rfl⟩ := ANS.out.1 (DDEF.out.2 (by omega))
        have q : (Q != v + v) = false := by simpa using he
        clear NO ANS DDEF
        subst he
        have q2 : (v + v != v + v) = false := by simp
        go_wp2
        go_ret2
        exact ⟨rfl, KG.out⟩
      · obtain ⟨rfl, rfl⟩ := NO.out (fun t => he (by have := DDEF.out.1 t; omega))
        have q : (Q != S + S) = true := by simpa using he
        clear NO ANS he DDEF
        go_wp2
        go_ret2
        exact ⟨rfl, KG.out⟩
end Go.Proofs.YtpdppjngbbkbbaaDoor
namespace Go.Proofs.YtpdppjngbbkbbaaDoor
open Go.RowKit

/-- How many of the first k edges lie within a set. -/
def innTo (es : List Ed) (ss : Sets) (o : List Int) (i k : Nat) : Int := sm (fun j => if hasIn ss i (frm es o j).toNat && hasIn ss i (tto es o j).toNat then 1 else 0) k

theorem takTo_add {es : List Ed} {N : Nat} {o : List Int} {k : Nat} (p : Nat → Int) (e1 : 0 ≤ frm es o k) (e2 : frm es o k < (N : Int)) (e3 : 0 ≤ tto es o k) (e4 : tto es o k < (N : Int)) : sm (fun v => p v * takTo es o (k + 1) v) N = (sm (fun v => p v * takTo es o k v) N + p (frm es o k).toNat) + p (tto es o k).toNat := by
  have step : sm (fun v => p v * takTo es o (k + 1) v) N = (sm (fun v => p v * takTo es o k v) N + sm (fun v => if frm es o k = (v : Int) then p v else 0) N) + sm (fun v => if tto es o k = (v : Int) then p v else 0) N := by
    rw [← sm_add, ← sm_add]
    refine sm_congr fun v _ => ?_
    rw [takTo_succ, Int.mul_add, Int.mul_add]
    congr 1
    · congr 1
      split
      · rw [Int.mul_one]
      · rw [Int.mul_zero]
    · split
      · rw [Int.mul_one]
      · rw [Int.mul_zero]
  rw [sm_pick p (frm es o k) N e1 e2, sm_pick p (tto es o k) N e3 e4] at step
  exact step

/-- A sum of what is not below 0 that is 0: each is. -/
theorem sm_all0 {f : Nat → Int} : ∀ N, (∀ v, v < N → 0 ≤ f v) → sm f N ≤ 0 → ∀ v, v < N → f v = 0 := by
  intro N
  induction N with
  | zero => intro _ _ v hv; omega
  | succ N ih =>
    intro hp hs v hv
    rw [sm_succ] at hs
    have h0 : 0 ≤ sm f N := by
      have := sm_le (f := fun _ => (0 : Int)) (g := f) (k := N) fun v hv => hp v (by omega)
      rwa [sm_zero] at this
    have h1 := hp N (by omega)
    by_cases e : v = N
    · subst e; omega
    · exact ih (fun v hv => hp v (by omega)) (by omega) v (by omega)

theorem all_ones (N : Nat) : sm (fun _ => (1 : Int)) N = (N : Int) := by
  induction N with
  | zero => rfl
  | succ k ih => rw [sm_succ, ih]; omega

/-- A matching of all nodes has an edge at each. -/
theorem perfect_ones {es : List Ed} {N n : Nat} (he : EndsIn es N n) {o : List Int} {lo : Nat} (ok : MatchOk es n o lo) (hp : 2 * lo = N) : ∀ v, v < N → takTo es o lo v = 1 := by
  have tk := (tak_one (n := n) (N := N) (c := o) (L := lo) he).2 ok
  have cnt : ∀ k, k ≤ lo → sm (fun v => 1 * takTo es o k v) N = 2 * (k : Int) := by
    intro k
    induction k with
    | zero =>
      intro _
      have : sm (fun v => 1 * takTo es o 0 v) N = sm (fun _ => 0) N := sm_congr fun v _ => rfl
      rw [this, sm_zero]; rfl
    | succ k ih =>
      intro hk
      obtain ⟨r1, r2⟩ := ok.1.rng (j := k) (by omega)
      obtain ⟨e1, e2, e3, e4⟩ := he (zAt o k).toNat (by omega)
      rw [takTo_add (fun _ => 1) e1 e2 e3 e4, ih (by omega)]
      omega
  have c := cnt lo (Nat.le_refl _)
  have le1 : ∀ v, v < N → takTo es o lo v ≤ 1 := fun v hv => by
    have t := tk.2.2 v hv
    rwa [onesTo_at hv] at t
  have z := sm_all0 (f := fun v => 1 - takTo es o lo v) N (fun v hv => by have := le1 v hv; omega) (by
    have s := sm_sub (fun _ => (1 : Int)) (fun v => 1 * takTo es o lo v) N
    rw [all_ones, c] at s
    have e : sm (fun v => 1 - takTo es o lo v) N = sm (fun v => (1 : Int) - 1 * takTo es o lo v) N := sm_congr fun v _ => by omega
    rw [e, s]; omega)
  intro v hv
  have := z v hv
  omega

/-- Within a set lie no more edges than half of its nodes. -/
theorem inn_le {es : List Ed} {N n : Nat} (he : EndsIn es N n) {ss : Sets} {i : Nat} (hs : SetOk N (setAt ss i)) {o : List Int} {lo : Nat} (ok : MatchOk es n o lo) : 2 * innTo es ss o i lo ≤ ((setAt ss i).1.length : Int) := by
  obtain ⟨x, hx⟩ : ∃ x, (setAt ss i).1 = x := ⟨_, rfl⟩
  have ris : RiseTo x (N : Int) x.length := by rw [← hx]; exact hs.1
  have tk := (tak_one (n := n) (N := N) (c := o) (L := lo) he).2 ok
  have up : sm (fun j => takTo es o lo (zAt x j).toNat) x.length ≤ sm (fun _ => 1) x.length := sm_le fun j hj => by
    have r := ris.rng hj
    have t := tk.2.2 (zAt x j).toNat (by omega)
    rwa [onesTo_at (by omega)] at t
  rw [all_ones] at up
  have dn : ∀ k : Nat, k ≤ lo → 2 * innTo es ss o i k ≤ sm (fun j => takTo es o k (zAt x j).toNat) x.length := by
    intro k
    induction k with
    | zero =>
      intro _
      have : sm (fun j => takTo es o 0 (zAt x j).toNat) x.length = sm (fun _ => 0) x.length := sm_congr fun j _ => rfl
      rw [this, sm_zero]; exact Int.le_refl _
    | succ k ih =>
      intro hk
      have ih := ih (by omega)
      obtain ⟨r1, r2⟩ := ok.1.rng (j := k) (by omega)
      obtain ⟨e1, e2, e3, e4⟩ := he (zAt o k).toNat (by omega)
      have step : sm (fun j => takTo es o (k + 1) (zAt x j).toNat) x.length = (sm (fun j => takTo es o k (zAt x j).toNat) x.length + sm (fun j => if frm es o k = zAt x j then 1 else 0) x.length) + sm (fun j => if tto es o k = zAt x j then 1 else 0) x.length := by
        rw [← sm_add, ← sm_add]
        refine sm_congr fun j hj => ?_
        have r := ris.rng hj
        rw [takTo_succ, show (((zAt x j).toNat : Nat) : Int) = zAt x j by omega]
      have a := hits_bd x (frm es o k) x.length
      have b := hits_bd x (tto es o k) x.length
      have inn : innTo es ss o i (k + 1) = innTo es ss o i k + if hasIn ss i (frm es o k).toNat && hasIn ss i (tto es o k).toNat then 1 else 0 := rfl
      rw [inn, step]
      by_cases hb : (hasIn ss i (frm es o k).toNat && hasIn ss i (tto es o k).toNat) = true
      · rw [if_pos hb]
        unfold hasIn at hb
        rw [hx, Bool.and_eq_true] at hb
        have p := hits_in (f := frm es o k) e1 hb.1
        have q := hits_in (f := tto es o k) e3 hb.2
        omega
      · rw [if_neg hb]; omega
  have := dn lo (Nat.le_refl _)
  rw [hx]
  omega

/-- No matching of all nodes costs less than half of what weights are together. -/
theorem dual_le {es : List Ed} {N n : Nat} {Y : List Int} {ss : Sets} {ns : Nat} (he : EndsIn es N n) (hW : WtsOk Y N ss ns N) (hP : ∀ i, i < n → lp es i = true ∨ pairOf Y ss ns (edAt es i).f.toNat (edAt es i).t.toNat ≤ 2 * (edAt es i).k) {o : List Int} {lo : Nat} (ok : MatchOk es n o lo) (hp : 2 * lo = N) : worthOf Y N ss ns ≤ 2 * csum es o lo := by
  have one := perfect_ones he ok hp
  have dn : ∀ k : Nat, k ≤ lo → sm (fun v => zAt Y v * takTo es o k v) N - sm (fun i => (setAt ss i).2 * innTo es ss o i k) ns ≤ 2 * csum es o k := by
    intro k
    induction k with
    | zero =>
      intro _
      have a : sm (fun v => zAt Y v * takTo es o 0 v) N = sm (fun _ => 0) N := sm_congr fun v _ => by show zAt Y v * 0 = 0; omega
      have b : sm (fun i => (setAt ss i).2 * innTo es ss o i 0) ns = sm (fun _ => 0) ns := sm_congr fun i _ => by show (setAt ss i).2 * 0 = 0; omega
      rw [a, b, sm_zero, sm_zero]; exact Int.le_refl _
    | succ k ih =>
      intro hk
      have ih := ih (by omega)
      obtain ⟨r1, r2⟩ := ok.1.rng (j := k) (by omega)
      obtain ⟨e1, e2, e3, e4⟩ := he (zAt o k).toNat (by omega)
      have hne := (ok.2 k (by omega)).1
      have st := takTo_add (N := N) (zAt Y) (o := o) (k := k) e1 e2 e3 e4
      have ss1 : sm (fun i => (setAt ss i).2 * innTo es ss o i (k + 1)) ns = sm (fun i => (setAt ss i).2 * innTo es ss o i k) ns + sm (fun i => if hasIn ss i (frm es o k).toNat && hasIn ss i (tto es o k).toNat then (setAt ss i).2 else 0) ns := by
        rw [← sm_add]
        refine sm_congr fun i _ => ?_
        have inn : innTo es ss o i (k + 1) = innTo es ss o i k + if hasIn ss i (frm es o k).toNat && hasIn ss i (tto es o k).toNat then 1 else 0 := rfl
        rw [inn, Int.mul_add]
        congr 1
        split
        · rw [Int.mul_one]
        · rw [Int.mul_zero]
      have cs : csum es o (k + 1) = csum es o k + (edAt es (zAt o k).toNat).k := rfl
      rcases hP (zAt o k).toNat (by omega) with c | c
      · exact absurd (by unfold lp at c; rw [beq_iff_eq] at c; exact c) hne
      · have c : (zAt Y (frm es o k).toNat + zAt Y (tto es o k).toNat) - sm (fun i => if hasIn ss i (frm es o k).toNat && hasIn ss i (tto es o k).toNat then (setAt ss i).2 else 0) ns ≤ 2 * (edAt es (zAt o k).toNat).k := c
        rw [st, ss1, cs]; omega
  have d := dn lo (Nat.le_refl _)
  have a : sm (fun v => zAt Y v * takTo es o lo v) N = sm (zAt Y) N := sm_congr fun v hv => by rw [one v hv, Int.mul_one]
  have b : sm (fun i => (setAt ss i).2 * innTo es ss o i lo) ns ≤ sm (fun i => setHalf (setAt ss i)) ns := sm_le fun i hi => by
    have l := inn_le he (hW.2.2 i hi) ok
    have z := (hW.2.2 i hi).2.2.1
    unfold setHalf
    exact Int.mul_le_mul_of_nonneg_left (by omega) z
  rw [a] at d
  unfold worthOf
  omega
end Go.Proofs.YtpdppjngbbkbbaaDoor
namespace Go.Proofs.YtpdppjngbbkbbaaDoor
open Go.RowKit

theorem allTo_succ (k : Nat) : allTo (k + 1) = allTo k ++ [(k : Int)] := by
  unfold allTo
  rw [List.range_succ, List.map_append]
  rfl
theorem odd_tak (es : List Ed) (c : List Int) (v : Nat) : ∀ k, (takTo es c k v).tmod 2 = if odTo es c k v then 1 else 0 := by
  intro k
  have nn : ∀ k, 0 ≤ takTo es c k v := fun k => (takTo_bd es c k v).1
  have key : ∀ k, takTo es c k v % 2 = if odTo es c k v then 1 else 0 := by
    intro k
    induction k with
    | zero => rfl
    | succ k ih =>
      rw [odTo_succ, takTo_succ]
      unfold flip
      cases h : odTo es c k v with
      | true =>
        rw [h] at ih
        simp only [if_true] at ih
        by_cases a : frm es c k = (v : Int)
        · by_cases b : tto es c k = (v : Int)
          · rw [if_pos a, if_pos b, if_pos b, if_pos a]; simp; omega
          · rw [if_pos a, if_neg b, if_neg b, if_pos a]; simp; omega
        · by_cases b : tto es c k = (v : Int)
          · rw [if_neg a, if_pos b, if_pos b, if_neg a]; simp; omega
          · rw [if_neg a, if_neg b, if_neg b, if_neg a]; simp; omega
      | false =>
        rw [h] at ih
        simp only [Bool.false_eq_true, if_false] at ih
        by_cases a : frm es c k = (v : Int)
        · by_cases b : tto es c k = (v : Int)
          · rw [if_pos a, if_pos b, if_pos b, if_pos a]; simp; omega
          · rw [if_pos a, if_neg b, if_neg b, if_pos a]; simp; omega
        · by_cases b : tto es c k = (v : Int)
          · rw [if_neg a, if_pos b, if_pos b, if_neg a]; simp; omega
          · rw [if_neg a, if_neg b, if_neg b, if_neg a]; simp; omega
  rw [Int.tmod_eq_emod_of_nonneg (nn k)]
  exact key k

set_option maxRecDepth 100000 in
set_option linter.unusedSimpArgs false in
set_option maxHeartbeats 4000000 in
theorem allR_calls (nodes : Int) (ao : Option Addr) (n cap : Nat) (hn : n ≤ 4096) (w : World) :
    Calls Tryd.prog 39 #[.agg #[.int .i64 nodes, .slice ao n cap]] w fun r w' => ∃ so sc, r = .returned (.slice so n sc) ∧ JRow w' so n sc (allTo n) ∧ Kept w w' := by
  obtain ⟨i0, hi, hz0, hz1, hz2⟩ := infoJ
  have KW : Kept w (w.alloc (Obj.cells #[.int .i64 nodes, .slice ao n cap] 24)) := (Kept.refl w).alloc _
  have w1 : (w.alloc (Obj.cells #[.int .i64 nodes, .slice ao n cap] 24)).cell? ⟨w.heap.size, 1, none⟩ = some (.slice ao n cap) := by simp [go_sem]
  go_enter Tryd.func39, Tryd.ntmps39
  go_wp2_with fail
  generalize w.alloc (Obj.cells #[.int .i64 nodes, .slice ao n cap] 24) = WQ at KW w1 ⊢
  have KWH := hid_of KW
  have W1H := hid_of w1
  have O1 : Hid (WQ.ownsRow WQ.heap.size 3 1 (.slice none 0 0) 0 (jvals (allTo 0))) := World.ownsRow_nil _ _ _ _
  clear KW w1
  go_loopw [3, 4] (fun qv i w2 => ∃ (k : Nat), k ≤ n ∧ i = .int .i64 k ∧ w2.ownsRow WQ.heap.size 3 1 qv k (jvals (allTo k)) ∧ Kept WQ w2) (fun _ i _ => n - (intOf i).toNat)
  case atStart => exact ⟨0, by omega, rfl, O1.out, Kept.refl _⟩
  case round =>
    obtain ⟨k, hk, rfl, OR, K2⟩ := hrel
    clear O1
    have K2H := hid_of K2
    obtain ⟨so, sc, rfl⟩ := owns_slice1j OR
    have ORH := hid_of OR
    have w1 := K2.cell W1H.out
    by_cases hgo : (k : Int) < (n : Int)
    · have NW := hid_of (cell_newj wr 3 (.int .i64 (k : Int)))
      have HM := hid_of (World.ownsRow.alloc ORH.out (Obj.cells #[.int .i64 (k : Int)] 3))
      have hbw : WQ.heap.size ≤ wr.heap.size := K2H.out.size
      clear K2 OR
      go_wp2_with (at_builtin; refine wpList_append_own_at _ rfl _ _ 25 rfl WQ.heap.size 3 i0 (.int .i64 0) 1 8 Tryd.underlying25 hi hz0 hz1 hz2 rfl (by decide) _ _ _ rfl HM.out ⟨wr.heap.size, 0, none⟩ 1 1 [.int .i64 (k : Int)] rfl rfl NW.out (by intro u hu; simp at hu; subst hu; rfl) (by unfold maxLen; omega) (by omega) (by simp; omega) ?_)
      intro u' w4 hown hgrow _ _
      have O4 : Hid (w4.ownsRow WQ.heap.size 3 1 u' (k + 1) (jvals (allTo (k + 1)))) := by
        rw [allTo_succ, ← jvals_snoc]
        exact hown
      have KA : Kept WQ (wr.alloc (Obj.cells #[.int .i64 (k : Int)] 3)) := K2H.out.alloc _
      have K4 : Hid (Kept WQ w4) := Below.grown KA hgrow KA.size (fun kk e => (ORH.out.lt kk e).1)
      clear hown hgrow HM NW ORH KA K2H w1
      go_wp2_with fail
      go_roundw
      case rel => exact ⟨k + 1, by omega, by go_num, O4.out, K4.out⟩
      case measure => simp [intOf]; omega
    · obtain rfl : k = n := by omega
      have JF : Hid (JRow wr so k sc (allTo k)) := JRow.of_owns OR
      have KF := hid_of (KWH.out.trans K2)
      clear OR K2 ORH
      go_wp2
      go_ret
      exact ⟨so, sc, rfl, JF.out, KF.out⟩

set_option maxRecDepth 100000 in
set_option linter.unusedSimpArgs false in
set_option maxHeartbeats 4000000 in
theorem unevenR_calls (N : Nat) (hN : N ≤ 1024) (ao : Option Addr) (n cap : Nat) (es : List Ed) (co : Option Addr) (L cc : Nat) (c : List Int) (w : World) (h : ERow w ao n cap es) (hJ : JRow w co L cc c) (hr : ∀ j, j < L → 0 ≤ zAt c j ∧ zAt c j < (n : Int)) (hL : L ≤ 4096) :
    Calls Tryd.prog 86 #[.agg #[.int .i64 (N : Int), .slice ao n cap], .slice co L cc] w fun r w' => ∃ so len sc, r = .returned (.slice so len sc) ∧ JRow w' so len sc (unevTo (odTo es c L) N) ∧ Kept w w' := by
  obtain ⟨i0, hi, hz0, hz1, hz2⟩ := infoJ
  have KW : Kept w (w.alloc (Obj.cells #[.int .i64 (N : Int), .slice ao n cap] 24)) := (Kept.refl w).alloc _
  have w0 : (w.alloc (Obj.cells #[.int .i64 (N : Int), .slice ao n cap] 24)).cell? ⟨w.heap.size, 0, none⟩ = some (.int .i64 (N : Int)) := by simp [go_sem]
  have w1 : (w.alloc (Obj.cells #[.int .i64 (N : Int), .slice ao n cap] 24)).cell? ⟨w.heap.size, 1, none⟩ = some (.slice ao n cap) := by simp [go_sem]
  have HE := hid_of h
  have HJ := hid_of hJ
  have HR := hid_of hr
  clear h hJ hr
  go_enter Tryd.func86, Tryd.ntmps86
  go_wp2_with fail
  generalize w.alloc (Obj.cells #[.int .i64 (N : Int), .slice ao n cap] 24) = WQ at KW w0 w1 ⊢
  have KWH := hid_of KW
  have W0H := hid_of w0
  have W1H := hid_of w1
  have AC := hid_of (fun w' (K : Kept WQ w') v => atR_calls (N : Int) ao n cap es co L cc c v w' (HE.out.kept (KWH.out.trans K)) (HJ.out.kept (KWH.out.trans K)) HR.out hL)
  obtain ⟨p, hpe⟩ : ∃ p, odTo es c L = p := ⟨_, rfl⟩
  have OT := hid_of (fun v => (by rw [← hpe]; exact odd_tak es c v L : (takTo es c L v).tmod 2 = if p v then 1 else 0))
  have HPE := hid_of hpe
  have O1 : Hid (WQ.ownsRow WQ.heap.size 3 1 (.slice none 0 0) (unevTo p 0).length (jvals (unevTo p 0))) := World.ownsRow_nil _ _ _ _
  clear KW w0 w1 hpe
  go_loopw [5, 6] (fun qv i w2 => ∃ (j : Nat), j ≤ N ∧ i = .int .i64 j ∧ w2.ownsRow WQ.heap.size 3 1 qv (unevTo p j).length (jvals (unevTo p j)) ∧ Kept WQ w2) (fun _ i _ => N - (intOf i).toNat)
  case atStart => exact ⟨0, by omega, rfl, O1.out, Kept.refl _⟩
  case round =>
    obtain ⟨j, hj, rfl, OR, K2⟩ := hrel
    clear O1
    have K2H := hid_of K2
    have w0 := K2.cell W0H.out
    have w1 := K2.cell W1H.out
    obtain ⟨len, hlen⟩ : ∃ len, (unevTo p j).length = len := ⟨_, rfl⟩
    have hlj := unevTo_len p j
    rw [hlen] at OR hlj
    have HLEN := hid_of hlen
    obtain ⟨so, sc, rfl⟩ := owns_slice1j OR
    have ORH := hid_of OR
    by_cases hgo : (j : Int) < (N : Int)
    · have hjN : j < N := by omega
      have SU := hid_of (unevTo_succ p j)
      have TM := OT.out j
      have CA := hid_of (AC.out wr K2 j)
      generalize takTo es c L j = tk at TM CA
      clear K2 OR hlen
      go_wp2_with fail
      refine CA.out.mono ?_
      rintro e w5 ⟨rfl, K5⟩
      have OR5 := hid_of (ownsK ORH.out K5)
      have K5H := hid_of (K2H.out.trans K5)
      clear K5 CA ORH K2H w0 w1
      by_cases hp : p j = true
      · have TM1 : tk.tmod 2 = 1 := by rw [TM, if_pos hp]
        have SU2 : Hid (unevTo p (j + 1) = unevTo p j ++ [(j : Int)]) := by show _ = _; rw [SU.out, if_pos hp]
        have NW := hid_of (cell_newj w5 3 (.int .i64 (j : Int)))
        have HM := hid_of (World.ownsRow.alloc OR5.out (Obj.cells #[.int .i64 (j : Int)] 3))
        have hbw : WQ.heap.size ≤ w5.heap.size := K5H.out.size
        clear SU hp TM
        go_wp2_with (at_builtin; refine wpList_append_own_at _ rfl _ _ 25 rfl WQ.heap.size 3 i0 (.int .i64 0) 1 8 Tryd.underlying25 hi hz0 hz1 hz2 rfl (by decide) _ _ _ rfl HM.out ⟨w5.heap.size, 0, none⟩ 1 1 [.int .i64 (j : Int)] rfl rfl NW.out (by intro u hu; simp at hu; subst hu; rfl) (by unfold maxLen; omega) (by omega) (by simp; omega) ?_)
        intro u' w4 hown hgrow _ _
        have O4 : Hid (w4.ownsRow WQ.heap.size 3 1 u' (unevTo p (j + 1)).length (jvals (unevTo p (j + 1)))) := by
          rw [SU2.out]
          show w4.ownsRow WQ.heap.size 3 1 u' (unevTo p j ++ [(j : Int)]).length (jvals (unevTo p j ++ [(j : Int)]))
          rw [← jvals_snoc, List.length_append, HLEN.out]
          exact hown
        have KA : Kept WQ (w5.alloc (Obj.cells #[.int .i64 (j : Int)] 3)) := K5H.out.alloc _
        have K4 : Hid (Kept WQ w4) := Below.grown KA hgrow KA.size (fun kk e => (OR5.out.lt kk e).1)
        clear hown hgrow HM NW OR5 KA K5H
        go_wp2_with fail
        go_roundw
        case rel => exact ⟨j + 1, by omega, by go_num, O4.out, K4.out⟩
        case measure => simp [intOf]; omega
      · have TM1 : tk.tmod 2 = 0 := by rw [TM, if_neg hp]
        have O4 : Hid (w5.ownsRow WQ.heap.size 3 1 (.slice so len sc) (unevTo p (j + 1)).length (jvals (unevTo p (j + 1)))) := by
          rw [SU.out, if_neg hp, HLEN.out]
          exact OR5.out
        clear SU hp TM OR5
        go_wp2_with fail
        go_roundw
        case rel => exact ⟨j + 1, by omega, by go_num, O4.out, K5H.out⟩
        case measure => simp [intOf]; omega
    · obtain rfl : j = N := by omega
      have JF : Hid (JRow wr so len sc (unevTo p j)) := JRow.of_owns OR
      have KF := hid_of (KWH.out.trans K2)
      clear OR K2 ORH
      go_wp2
      go_ret
      exact ⟨so, len, sc, rfl, by rw [HPE.out]; exact JF.out, KF.out⟩

set_option maxRecDepth 100000 in
set_option linter.unusedSimpArgs false in
set_option maxHeartbeats 2000000 in
theorem intsR_calls (ao : Option Addr) (n cap : Nat) (xs : List Int) (bo : Option Addr) (m bc : Nat) (ys : List Int) (z : Bool) (hY : Hid (xs = ys → z = true)) (hN : Hid (xs ≠ ys → z = false)) (w : World) (hA : JRow w ao n cap xs) (hB : JRow w bo m bc ys) :
    Calls Tryd.prog 89 #[.slice ao n cap, .slice bo m bc] w fun r w' => r = .returned (.bool z) ∧ Kept w w' := by
  have hr1 := hA.room
  have hm1 := hA.most
  have hr2 := hB.room
  have hm2 := hB.most
  unfold maxLen at hm1 hm2
  by_cases hnm : n = m
  rotate_left
  · have P := hid_of (hN.out (fun t => hnm (by rw [hA.len, hB.len, t])))
    have q : ((n : Int) != (m : Int)) = true := by rw [bne_iff_ne]; omega
    go_enter Tryd.func89, Tryd.ntmps89
    go_wp2_with fail
    go_ret
    exact ⟨by rw [P.out]; rfl, Kept.refl _⟩
  subst hnm
  have q : ((n : Int) != (n : Int)) = false := by simp
  have HA := hid_of hA
  have HB := hid_of hB
  clear hA hB
  go_enter Tryd.func89, Tryd.ntmps89
  go_wp2_with fail
  go_loopw [5] (fun i wr => ∃ (k : Nat), k ≤ n ∧ i = .int .i64 k ∧ Kept w wr ∧ ∀ j, j < k → zAt xs j = zAt ys j) (fun i _ => n - (intOf i).toNat)
  case atStart => exact ⟨0, by omega, rfl, Kept.refl _, fun i hi => by omega⟩
  case round =>
    obtain ⟨k, hk, rfl, K, hno⟩ := hrel
    have HNO := hid_of hno
    have KH := hid_of K
    clear hno
    by_cases hgo : (k : Int) < (n : Int)
    · obtain ⟨b1, o1, rfl, hc1⟩ := (HA.out.kept K).at (by omega)
      obtain ⟨b2, o2, rfl, hc2⟩ := (HB.out.kept K).at (by omega)
      have d1 := hc1 k (by omega)
      have d2 := hc2 k (by omega)
      have HIT : Hid (zAt xs k = zAt ys k → ∀ j, j < k + 1 → zAt xs j = zAt ys j) := fun hb i hi => by
        by_cases e : i = k
        · subst e; exact hb
        · exact HNO.out i (by omega)
      have MISS : Hid (zAt xs k ≠ zAt ys k → xs ≠ ys) := fun hb t => hb (by rw [t])
      generalize zAt xs k = x at d1 HIT MISS
      generalize zAt ys k = y at d2 HIT MISS
      clear hc1 hc2 K
      by_cases he : x = y
      · have P := hid_of (HIT.out he)
        have qx : (x != y) = false := by simp [he]
        clear HIT MISS he
        go_wp2_with fail
        refine Ord.region [(0, 0), (1, 0), (2, 0), (3, 1), (4, 0), (5, 0), (6, 0), (7, 1), (8, 0)] (fun w' => Kept wr w') (by kernel_rfl) (by kernel_rfl) (by kernel_rfl) (by kernel_rfl) (fun _ _ d _ _ h => by cases d <;> exact h) ((Kept.refl _).drewN _) ?_
        repeat
          refine Ord.step rfl (fun Ko hK => ?_)
          simp only [Ord.body]
          go_simp
          first
            | (refine hK _ _ ?_; clear hK Ko)
            | (refine ⟨_, fun w' hS => (by have c0 := hS.cell d1; have c1 := hS.cell d2; simp only [c0, c1, Result.andThen]; rfl), hK _ _ ?_⟩; clear hK Ko)
        refine Ord.done ?_
        go_wp2
        go_roundw
        case rel => exact ⟨k + 1, by omega, by go_num, KH.out.drewN _, P.out⟩
        case measure => simp [intOf]; omega
      · have P := hid_of (hN.out (MISS.out he))
        have qx : (x != y) = true := by rw [bne_iff_ne]; exact he
        clear HIT MISS he
        go_wp2_with fail
        refine Ord.region [(0, 0), (1, 0), (2, 0), (3, 1), (4, 0), (5, 0), (6, 0), (7, 1), (8, 0)] (fun w' => Kept wr w') (by kernel_rfl) (by kernel_rfl) (by kernel_rfl) (by kernel_rfl) (fun _ _ d _ _ h => by cases d <;> exact h) ((Kept.refl _).drewN _) ?_
        repeat
          refine Ord.step rfl (fun Ko hK => ?_)
          simp only [Ord.body]
          go_simp
          first
            | (refine hK _ _ ?_; clear hK Ko)
            | (refine ⟨_, fun w' hS => (by have c0 := hS.cell d1; have c1 := hS.cell d2; simp only [c0, c1, Result.andThen]; rfl), hK _ _ ?_⟩; clear hK Ko)
        refine Ord.done ?_
        go_wp2
        go_ret
        exact ⟨by rw [P.out]; rfl, KH.out.drewN _⟩
    · obtain rfl : k = n := by omega
      have e : xs = ys := by
        have la := HA.out.len
        have lb := HB.out.len
        refine List.ext_getElem (by omega) fun i h1 h2 => ?_
        have := HNO.out i (by omega)
        unfold zAt at this
        simpa [List.getD, h1, h2] using this
      have P := hid_of (hY.out e)
      clear K e HNO
      go_wp2
      go_ret
      exact ⟨by rw [P.out]; rfl, KH.out⟩

/-- Edges that, walked twice, make all even. -/
def EvOk (es : List Ed) (N n : Nat) (c : List Int) (L : Nat) : Prop := RiseTo c (n : Int) L ∧ unevTo (odTo es c L) N = unevAll es N n

set_option maxRecDepth 100000 in
set_option linter.unusedSimpArgs false in
set_option maxHeartbeats 4000000 in
theorem evensR_calls (N : Nat) (ao : Option Addr) (n cap : Nat) (es : List Ed) (co : Option Addr) (L cc : Nat) (c : List Int) (w : World) (h : ERow w ao n cap es) (hJ : JRow w co L cc c) (RG : Right N n es) :
    Calls Tryd.prog 40 #[.agg #[.int .i64 (N : Int), .slice ao n cap], .slice co L cc] w fun r w' => Kept w w' ∧ ((EvOk es N n c L ∧ r = .returned (.bool true)) ∨ (¬ EvOk es N n c L ∧ r = .returned (.bool false))) := by
  have hnot : ∀ (x : Bool) (w : World), (Op.unary .not (.bool x)).run Tryd.prog w = .ok (.bool (!x)) w := fun _ _ => rfl
  have hN := RG.nodes
  have hn := RG.edges
  have KW : Kept w (w.alloc (Obj.cells #[.int .i64 (N : Int), .slice ao n cap] 24)) := (Kept.refl w).alloc _
  have w0 : (w.alloc (Obj.cells #[.int .i64 (N : Int), .slice ao n cap] 24)).cell? ⟨w.heap.size, 0, none⟩ = some (.int .i64 (N : Int)) := by simp [go_sem]
  have w1 : (w.alloc (Obj.cells #[.int .i64 (N : Int), .slice ao n cap] 24)).cell? ⟨w.heap.size, 1, none⟩ = some (.slice ao n cap) := by simp [go_sem]
  have hr1 := h.room
  have hm1 := h.most
  unfold maxLen at hm1
  have HE := hid_of h
  have HJ := hid_of hJ
  clear h hJ RG
  go_enter Tryd.func40, Tryd.ntmps40
  go_upto_region 1 with fail
  generalize w.alloc (Obj.cells #[.int .i64 (N : Int), .slice ao n cap] 24) = W1 at KW w0 w1 ⊢
  have KWH := hid_of KW
  have W0H := hid_of w0
  have W1H := hid_of w1
  have RC := hid_of (fun w' (K : Kept W1 w') => risingR_calls co L cc c (n : Int) w' (HJ.out.kept (KWH.out.trans K)))
  clear KW
  by_cases ris : RiseTo c (n : Int) L
  rotate_left
  · have RC2 := hid_of (fun w' (K : Kept W1 w') => (RC.out w' K).mono (fun r w'' hp => (show Kept w' w'' ∧ r = .returned (.bool false) from ⟨hp.1, hp.2.elim (fun t => absurd t.1 ris) (fun t => t.2)⟩)))
    have P : Hid (¬ EvOk es N n c L) := fun t => ris t.1
    clear ris RC W0H W1H
    refine Ord.region [(0, 0), (1, 0), (2, 1), (3, 0), (4, 2), (5, 0), (6, 1), (7, 0), (9, 1), (10, 1), (8, 2), (11, 2), (12, 2), (13, 2), (14, 0), (15, 0)] (fun w' => Kept W1 w') (by kernel_rfl) (by kernel_rfl) (by kernel_rfl) (by kernel_rfl) (fun _ _ d _ _ h => by cases d <;> exact h) ((Kept.refl _).drewN _) ?_
    repeat
      refine Ord.step rfl (fun Ko hK => ?_)
      simp only [Ord.body]
      go_simp
      first
        | (refine hK _ _ ?_; clear hK Ko)
        | (refine ⟨_, fun w' hS => (by have c0 := hS.cell w0; have c1 := hS.cell w1; simp only [c0, c1, Result.andThen]; rfl), hK _ _ ?_⟩; clear hK Ko)
        | (go_at_call 54; refine (RC2.out _ ((Kept.refl _).drewN _)).mono ?_; clear RC2; rintro e w5 ⟨K5, rfl⟩; refine ⟨((Kept.refl _).drewN _).trans K5, hK _ _ ?_⟩; clear hK Ko)
    refine Ord.done ?_
    have KN := hid_of (KWH.out.trans (((Kept.refl W1).drewN 1).trans K5))
    clear K5 w0 w1
    go_wp2
    go_ret
    exact ⟨KN.out, .inr ⟨P.out, rfl⟩⟩
  have RC2 := hid_of (fun w' (K : Kept W1 w') => (RC.out w' K).mono (fun r w'' hp => (show Kept w' w'' ∧ r = .returned (.bool true) from ⟨hp.1, hp.2.elim (fun t => t.2) (fun t => absurd ris t.1)⟩)))
  have RIS := hid_of ris
  have hL : L ≤ 4096 := by have := ris.len_le; omega
  have UC := hid_of (fun w' (K : Kept W1 w') => unevenR_calls N hN ao n cap es co L cc c w' (HE.out.kept (KWH.out.trans K)) (HJ.out.kept (KWH.out.trans K)) (fun j hj => RIS.out.rng hj) hL)
  have AL := hid_of (fun w' => allR_calls (N : Int) ao n cap hn w')
  have UD := hid_of (fun w' (K : Kept W1 w') qo qc (J : JRow w' qo n qc (allTo n)) => unevenR_calls N hN ao n cap es qo n qc (allTo n) w' (HE.out.kept (KWH.out.trans K)) J (fun j hj => by rw [allTo_at hj]; omega) hn)
  obtain ⟨z, hz⟩ : ∃ z : Bool, (unevTo (odTo es c L) N = unevAll es N n → z = true) ∧ (unevTo (odTo es c L) N ≠ unevAll es N n → z = false) := by
    by_cases he : unevTo (odTo es c L) N = unevAll es N n
    · exact ⟨true, fun _ => rfl, fun t => absurd he t⟩
    · exact ⟨false, fun t => absurd t he, fun _ => rfl⟩
  have HZ := hid_of hz
  have IC := hid_of (fun w' so len sc so2 len2 sc2 (J : JRow w' so len sc (unevTo (odTo es c L) N)) (J2 : JRow w' so2 len2 sc2 (unevAll es N n)) => intsR_calls so len sc _ so2 len2 sc2 _ z HZ.out.1 HZ.out.2 w' J J2)
  clear ris RC W0H W1H hz
  refine Ord.region [(0, 0), (1, 0), (2, 1), (3, 0), (4, 2), (5, 0), (6, 1), (7, 0), (9, 1), (10, 1), (8, 2), (11, 2), (12, 2), (13, 2), (14, 0), (15, 0)] (fun w' => Kept W1 w') (by kernel_rfl) (by kernel_rfl) (by kernel_rfl) (by kernel_rfl) (fun _ _ d _ _ h => by cases d <;> exact h) ((Kept.refl _).drewN _) ?_
  repeat
    refine Ord.step rfl (fun Ko hK => ?_)
    simp only [Ord.body]
    go_simp
    first
      | (refine hK _ _ ?_; clear hK Ko)
      | (refine ⟨_, fun w' hS => (by have c0 := hS.cell w0; have c1 := hS.cell w1; simp only [c0, c1, Result.andThen]; rfl), hK _ _ ?_⟩; clear hK Ko)
      | (go_at_call 54; refine (RC2.out _ ((Kept.refl _).drewN _)).mono ?_; clear RC2; rintro e w5 ⟨K5, rfl⟩; refine ⟨((Kept.refl _).drewN _).trans K5, hK _ _ ?_⟩; clear hK Ko)
      | (go_at_call 86; refine (UC.out _ (((Kept.refl _).drewN _).trans K5)).mono ?_; clear UC; rintro e w6 ⟨so, len, sc, rfl, JU, K6⟩; refine ⟨(((Kept.refl _).drewN _).trans K5).trans K6, hK _ _ ?_⟩; clear hK Ko)
      | (go_at_call 39; refine (AL.out _).mono ?_; clear AL; rintro e w7 ⟨qo, qc, rfl, JA, K7⟩; refine ⟨((((Kept.refl _).drewN _).trans K5).trans K6).trans K7, hK _ _ ?_⟩; clear hK Ko)
      | (go_at_call 86; refine (UD.out _ (((((Kept.refl _).drewN _).trans K5).trans K6).trans K7) _ _ JA).mono ?_; clear UD; rintro e w8 ⟨so2, len2, sc2, rfl, JV, K8⟩; refine ⟨(((((Kept.refl _).drewN _).trans K5).trans K6).trans K7).trans K8, hK _ _ ?_⟩; clear hK Ko)
      | (go_at_call 89; refine (IC.out _ _ _ _ _ _ _ ((JU.kept K7).kept K8) JV).mono ?_; clear IC; rintro e w9 ⟨rfl, K9⟩; refine ⟨((((((Kept.refl _).drewN _).trans K5).trans K6).trans K7).trans K8).trans K9, hK _ _ ?_⟩; clear hK Ko)
  refine Ord.done ?_
  have KN := hid_of (KWH.out.trans (((((((Kept.refl W1).drewN 1).trans K5).trans K6).trans K7).trans K8).trans K9))
  clear K5 K6 K7 K8 K9 w0 w1 JU JA JV
  go_wp2
  go_ret
  refine ⟨KN.out, ?_⟩
  by_cases he : unevTo (odTo es c L) N = unevAll es N n
  · exact .inl ⟨⟨RIS.out, he⟩, by rw [HZ.out.1 he]; rfl⟩
  · exact .inr ⟨fun t => he t.2, by rw [HZ.out.2 he]; rfl⟩
end Go.Proofs.YtpdppjngbbkbbaaDoor
namespace Go.Proofs.YtpdppjngbbkbbaaDoor
open Go.RowKit

/-- How many ends of pairs are at a node. -/
def cntE : List Ed → Nat → Int
  | [], _ => 0
  | e :: Q, v => (cntE Q v + if e.f = (v : Int) then 1 else 0) + if e.t = (v : Int) then 1 else 0
theorem cntE_cons (e : Ed) (Q : List Ed) (v : Nat) : cntE (e :: Q) v = (cntE Q v + if e.f = (v : Int) then 1 else 0) + if e.t = (v : Int) then 1 else 0 := rfl
theorem cntE_nn (Q : List Ed) (v : Nat) : 0 ≤ cntE Q v := by
  induction Q with
  | nil => exact Int.le_refl _
  | cons e Q ih => rw [cntE_cons]; split <;> split <;> omega
/-- What pairs may cost together. -/
def sumE : List Ed → Int
  | [] => 0
  | e :: Q => sumE Q + e.k
theorem sumE_cons (e : Ed) (Q : List Ed) : sumE (e :: Q) = sumE Q + e.k := rfl
/-- No row parts two nodes by more. -/
def Part (ds : List (List Int)) (nd : Nat) (a b c : Int) : Prop := 0 ≤ c ∧ ∀ i, i < nd → -c ≤ zAt (rowAt ds i) a.toNat - zAt (rowAt ds i) b.toNat ∧ zAt (rowAt ds i) a.toNat - zAt (rowAt ds i) b.toNat ≤ c
theorem Part.symm {ds : List (List Int)} {nd : Nat} {a b c : Int} (h : Part ds nd a b c) : Part ds nd b a c := ⟨h.1, fun i hi => by have := h.2 i hi; omega⟩
theorem Part.trans {ds : List (List Int)} {nd : Nat} {a b x c d : Int} (h : Part ds nd a b c) (g : Part ds nd b x d) : Part ds nd a x (c + d) := ⟨by have := h.1; have := g.1; omega, fun i hi => by have := h.2 i hi; have := g.2 i hi; omega⟩
/-- Right pairs. -/
def PrOk (ds : List (List Int)) (nd N : Nat) (Q : List Ed) : Prop := ∀ e ∈ Q, (0 ≤ e.f ∧ e.f < (N : Int)) ∧ (0 ≤ e.t ∧ e.t < (N : Int)) ∧ e.f ≠ e.t ∧ Part ds nd e.f e.t e.k
def ones1 (p : Nat → Bool) (v : Nat) : Int := if p v then 1 else 0

theorem take_out {ds : List (List Int)} {nd N : Nat} (a : Int) (ha : 0 ≤ a) : ∀ {Q : List Ed}, PrOk ds nd N Q → 1 ≤ cntE Q a.toNat → ∃ x w Q0, PrOk ds nd N (⟨a, x, 0, w⟩ :: Q0) ∧ (∀ v, cntE Q v = cntE (⟨a, x, 0, w⟩ :: Q0) v) ∧ sumE Q = sumE (⟨a, x, 0, w⟩ :: Q0) := by
  intro Q
  induction Q with
  | nil => intro _ h; simp [cntE] at h
  | cons e Q ih =>
    intro ok h
    obtain ⟨e1, e2, e3, e4⟩ := ok e List.mem_cons_self
    have okQ : PrOk ds nd N Q := fun x hx => ok x (List.mem_cons_of_mem _ hx)
    by_cases hf : e.f = a
    · refine ⟨e.t, e.k, Q, fun x hx => ?_, fun v => ?_, rfl⟩
      · rcases List.mem_cons.1 hx with rfl | hx
        · rw [hf] at e1 e3 e4; exact ⟨e1, e2, e3, e4⟩
        · exact okQ x hx
      · rw [cntE_cons, cntE_cons, hf]
    · by_cases ht : e.t = a
      · refine ⟨e.f, e.k, Q, fun x hx => ?_, fun v => ?_, rfl⟩
        · rcases List.mem_cons.1 hx with rfl | hx
          · rw [ht] at e2 e3 e4; exact ⟨e2, e1, fun t => e3 t.symm, e4.symm⟩
          · exact okQ x hx
        · rw [cntE_cons, cntE_cons, ht]; simp only; omega
      · rw [cntE_cons, if_neg (by omega), if_neg (by omega)] at h
        obtain ⟨x, w, Q0, g1, g2, g3⟩ := ih okQ (by omega)
        refine ⟨x, w, e :: Q0, fun y hy => ?_, fun v => ?_, ?_⟩
        · rcases List.mem_cons.1 hy with rfl | hy
          · exact g1 _ List.mem_cons_self
          · rcases List.mem_cons.1 hy with rfl | hy
            · exact ok _ List.mem_cons_self
            · exact g1 y (List.mem_cons_of_mem _ hy)
        · rw [cntE_cons, g2 v, cntE_cons, cntE_cons, cntE_cons]; omega
        · rw [sumE_cons, g3, sumE_cons, sumE_cons, sumE_cons]; simp only; omega

theorem flip_eq {p : Nat → Bool} {a b : Int} (v : Nat) : ones1 (flip (flip p a) b) v = if a = (v : Int) then (if b = (v : Int) then ones1 p v else 1 - ones1 p v) else if b = (v : Int) then 1 - ones1 p v else ones1 p v := by
  unfold ones1 flip
  cases h : p v <;> by_cases h1 : a = (v : Int) <;> by_cases h2 : b = (v : Int) <;> simp [h1, h2]

/-- One more edge. -/
theorem pairs_step {ds : List (List Int)} {nd N : Nat} {Q : List Ed} {p : Nat → Bool} (ok : PrOk ds nd N Q) (hc : ∀ v, cntE Q v = ones1 p v) {a b c : Int} (ha : 0 ≤ a ∧ a < (N : Int)) (hb : 0 ≤ b ∧ b < (N : Int)) (hp : Part ds nd a b c) :
    ∃ Q', PrOk ds nd N Q' ∧ (∀ v, cntE Q' v = ones1 (flip (flip p a) b) v) ∧ sumE Q' ≤ sumE Q + c := by
  have hc0 := hp.1
  by_cases hab : a = b
  · subst hab
    refine ⟨Q, ok, fun v => ?_, by omega⟩
    rw [hc, flip_eq]; split <;> rfl
  have ea : ((a.toNat : Nat) : Int) = a := by omega
  have eb : ((b.toNat : Nat) : Int) = b := by omega
  have ca := hc a.toNat
  have cb := hc b.toNat
  cases pa : p a.toNat with
  | false =>
    have pa' : ones1 p a.toNat = 0 := by unfold ones1; rw [pa]; rfl
    cases pb : p b.toNat with
    | false =>
      have pb' : ones1 p b.toNat = 0 := by unfold ones1; rw [pb]; rfl
      refine ⟨⟨a, b, 0, c⟩ :: Q, fun x hx => ?_, fun v => ?_, by rw [sumE_cons]; simp only; omega⟩
      · rcases List.mem_cons.1 hx with rfl | hx
        · exact ⟨ha, hb, hab, hp⟩
        · exact ok x hx
      · rw [cntE_cons, hc, flip_eq]
        simp only
        by_cases h1 : a = (v : Int)
        · have : v = a.toNat := by omega
          subst this
          rw [if_pos h1, if_neg (by omega), if_pos h1, if_neg (by omega)]; omega
        · by_cases h2 : b = (v : Int)
          · have : v = b.toNat := by omega
            subst this
            rw [if_neg h1, if_pos h2, if_neg h1, if_pos h2]; omega
          · rw [if_neg h1, if_neg h2, if_neg h1, if_neg h2]; omega
    | true =>
      have pb' : ones1 p b.toNat = 1 := by unfold ones1; rw [pb]; rfl
      obtain ⟨x, w, Q0, g1, g2, g3⟩ := take_out b hb.1 ok (by omega)
      obtain ⟨-, k2, k3, k4⟩ := g1 _ List.mem_cons_self
      simp only at k2 k3 k4
      have xa : x ≠ a := fun t => by
        have := g2 a.toNat
        rw [cntE_cons] at this
        simp only at this
        have nn := cntE_nn Q0 a.toNat
        rw [if_neg (by omega), if_pos (by omega)] at this
        omega
      refine ⟨⟨a, x, 0, c + w⟩ :: Q0, fun y hy => ?_, fun v => ?_, ?_⟩
      · rcases List.mem_cons.1 hy with rfl | hy
        · exact ⟨ha, k2, fun t => xa t.symm, hp.trans k4⟩
        · exact g1 y (List.mem_cons_of_mem _ hy)
      · have gv := g2 v
        have hv := hc v
        rw [cntE_cons] at gv ⊢
        simp only at gv ⊢
        rw [flip_eq]
        by_cases h1 : a = (v : Int)
        · have : v = a.toNat := by omega
          subst this
          rw [if_neg (by omega), if_neg (by omega)] at gv
          rw [if_pos h1, if_neg (by omega), if_pos h1, if_neg (by omega)]; omega
        · by_cases h2 : b = (v : Int)
          · have : v = b.toNat := by omega
            subst this
            rw [if_pos h2, if_neg (by omega)] at gv
            rw [if_neg h1, if_neg (by omega), if_neg h1, if_pos h2]; omega
          · rw [if_neg h2] at gv
            rw [if_neg h1, if_neg h1, if_neg h2]; omega
      · rw [g3, sumE_cons, sumE_cons]; simp only; omega
  | true =>
    have pa' : ones1 p a.toNat = 1 := by unfold ones1; rw [pa]; rfl
    obtain ⟨x, w, Q0, g1, g2, g3⟩ := take_out a ha.1 ok (by omega)
    obtain ⟨-, k2, k3, k4⟩ := g1 _ List.mem_cons_self
    simp only at k2 k3 k4
    have w0 := k4.1
    have okQ0 : PrOk ds nd N Q0 := fun y hy => g1 y (List.mem_cons_of_mem _ hy)
    cases pb : p b.toNat with
    | false =>
      have pb' : ones1 p b.toNat = 0 := by unfold ones1; rw [pb]; rfl
      have xb : x ≠ b := fun t => by
        have := g2 b.toNat
        rw [cntE_cons] at this
        simp only at this
        have nn := cntE_nn Q0 b.toNat
        rw [if_neg (by omega), if_pos (by omega)] at this
        omega
      refine ⟨⟨b, x, 0, c + w⟩ :: Q0, fun y hy => ?_, fun v => ?_, ?_⟩
      · rcases List.mem_cons.1 hy with rfl | hy
        · exact ⟨hb, k2, fun t => xb t.symm, hp.symm.trans k4⟩
        · exact okQ0 y hy
      · have gv := g2 v
        have hv := hc v
        rw [cntE_cons] at gv ⊢
        simp only at gv ⊢
        rw [flip_eq]
        by_cases h1 : a = (v : Int)
        · have : v = a.toNat := by omega
          subst this
          rw [if_pos h1, if_neg (by omega)] at gv
          rw [if_neg (by omega), if_neg (by omega), if_pos h1, if_neg (by omega)]; omega
        · by_cases h2 : b = (v : Int)
          · have : v = b.toNat := by omega
            subst this
            rw [if_neg h1, if_neg (by omega)] at gv
            rw [if_pos h2, if_neg (by omega), if_neg h1, if_pos h2]; omega
          · rw [if_neg h1] at gv
            rw [if_neg h2, if_neg h1, if_neg h2]; omega
      · rw [g3, sumE_cons, sumE_cons]; simp only; omega
    | true =>
      have pb' : ones1 p b.toNat = 1 := by unfold ones1; rw [pb]; rfl
      by_cases xb : x = b
      · subst xb
        refine ⟨Q0, okQ0, fun v => ?_, ?_⟩
        · have gv := g2 v
          have hv := hc v
          rw [cntE_cons] at gv
          simp only at gv
          rw [flip_eq]
          by_cases h1 : a = (v : Int)
          · have : v = a.toNat := by omega
            subst this
            rw [if_pos h1, if_neg (by omega)] at gv
            rw [if_pos h1, if_neg (by omega)]; omega
          · by_cases h2 : x = (v : Int)
            · have : v = x.toNat := by omega
              subst this
              rw [if_neg h1, if_pos h2] at gv
              rw [if_neg h1, if_pos h2]; omega
            · rw [if_neg h1, if_neg h2] at gv
              rw [if_neg h1, if_neg h2]; omega
        · rw [g3, sumE_cons]; simp only; omega
      · have cQ0 : cntE Q0 b.toNat = 1 := by
          have gv := g2 b.toNat
          rw [cntE_cons] at gv
          simp only at gv
          rw [if_neg (by omega), if_neg (by omega)] at gv
          omega
        obtain ⟨y, w2, Q1, f1, f2, f3⟩ := take_out b hb.1 okQ0 (by omega)
        obtain ⟨-, l2, l3, l4⟩ := f1 _ List.mem_cons_self
        simp only at l2 l3 l4
        have ex : ((x.toNat : Nat) : Int) = x := by omega
        have xy : x ≠ y := fun t => by
          have gx := g2 x.toNat
          have fx := f2 x.toNat
          have hx := hc x.toNat
          rw [cntE_cons] at gx fx
          simp only at gx fx
          have nn := cntE_nn Q1 x.toNat
          rw [if_neg (show ¬ a = ((x.toNat : Nat) : Int) by omega), if_pos (show x = ((x.toNat : Nat) : Int) by omega)] at gx
          rw [if_neg (show ¬ b = ((x.toNat : Nat) : Int) by omega), if_pos (show y = ((x.toNat : Nat) : Int) by omega)] at fx
          have : ones1 p x.toNat ≤ 1 := by unfold ones1; split <;> omega
          omega
        refine ⟨⟨x, y, 0, w + c + w2⟩ :: Q1, fun z hz => ?_, fun v => ?_, ?_⟩
        · rcases List.mem_cons.1 hz with rfl | hz
          · exact ⟨k2, l2, xy, (k4.symm.trans hp).trans l4⟩
          · exact f1 z (List.mem_cons_of_mem _ hz)
        · have gv := g2 v
          have fv := f2 v
          have hv := hc v
          rw [cntE_cons] at gv fv ⊢
          simp only at gv fv ⊢
          rw [flip_eq]
          by_cases h1 : a = (v : Int)
          · have : v = a.toNat := by omega
            subst this
            rw [if_pos h1] at gv
            rw [if_neg (show ¬ b = ((a.toNat : Nat) : Int) by omega)] at fv
            rw [if_pos h1, if_neg (show ¬ b = ((a.toNat : Nat) : Int) by omega)]; omega
          · by_cases h2 : b = (v : Int)
            · have : v = b.toNat := by omega
              subst this
              rw [if_neg h1] at gv
              rw [if_pos h2] at fv
              rw [if_neg h1, if_pos h2]; omega
            · rw [if_neg h1] at gv
              rw [if_neg h2] at fv
              rw [if_neg h1, if_neg h2]; omega
        · rw [g3, sumE_cons, sumE_cons, f3, sumE_cons]; simp only; omega

/-- Edges are no cheaper than pairs of the nodes at which they are uneven. -/
theorem pairs_of {es : List Ed} {N n : Nat} (he : EndsIn es N n) (hm : NoMinus es n) {ds : List (List Int)} {nd : Nat} (hn : ∀ i, i < nd → ∀ j, j < n → NearE es (rowAt ds i) j) {o : List Int} {lo : Nat} (ris : RiseTo o (n : Int) lo) : ∀ k, k ≤ lo → ∃ Q, PrOk ds nd N Q ∧ (∀ v, cntE Q v = ones1 (odTo es o k) v) ∧ sumE Q ≤ csum es o k := by
  intro k
  induction k with
  | zero => intro _; exact ⟨[], (fun _ h => by cases h), fun v => rfl, Int.le_refl _⟩
  | succ k ih =>
    intro hk
    obtain ⟨Q, q1, q2, q3⟩ := ih (by omega)
    obtain ⟨r1, r2⟩ := ris.rng (j := k) (by omega)
    obtain ⟨e1, e2, e3, e4⟩ := he (zAt o k).toNat (by omega)
    obtain ⟨Q', g1, g2, g3⟩ := pairs_step q1 q2 (a := frm es o k) (b := tto es o k) (c := (edAt es (zAt o k).toNat).k) ⟨e1, e2⟩ ⟨e3, e4⟩ ⟨hm _ (by omega), fun i hi => hn i hi _ (by omega)⟩
    refine ⟨Q', g1, fun v => by rw [odTo_succ]; exact g2 v, ?_⟩
    rw [csum_succ]; omega

/-- The place of a number among those that are so. -/
def plcU (p : Nat → Bool) (v : Nat) : Nat := (unevTo p v).length
theorem uneven_at (p : Nat → Bool) {v : Nat} (hp : p v = true) : ∀ N, v < N → plcU p v < (unevTo p N).length ∧ zAt (unevTo p N) (plcU p v) = (v : Int) := by
  intro N
  induction N with
  | zero => intro h; omega
  | succ N ih =>
    intro h
    rw [unevTo_succ]
    by_cases e : v = N
    · subst e
      rw [if_pos hp]
      refine ⟨by simp [plcU], ?_⟩
      simp [plcU, zAt, List.getD]
    · obtain ⟨i1, i2⟩ := ih (by omega)
      split
      · refine ⟨by simp; omega, ?_⟩
        rw [← i2]
        simp [zAt, List.getD, List.getElem?_append_left i1]
      · exact ⟨i1, i2⟩
theorem uneven_len (p : Nat → Bool) (N : Nat) : ((unevTo p N).length : Int) = sm (ones1 p) N := by
  induction N with
  | zero => rfl
  | succ N ih =>
    rw [unevTo_succ, sm_succ, ← ih]
    unfold ones1
    split
    · rw [List.length_append]; simp
    · omega

theorem sm_shift (f : Nat → Int) (k : Nat) : sm f (k + 1) = f 0 + sm (fun i => f (i + 1)) k := by
  induction k with
  | zero => simp [sm]
  | succ k ih => rw [sm_succ, ih, sm_succ]; omega
theorem edAt_memE {es : List Ed} {j : Nat} (h : j < es.length) : edAt es j ∈ es := by
  unfold edAt
  rw [List.getD_eq_getElem?_getD, List.getElem?_eq_getElem h]
  exact List.getElem_mem h
theorem cntE_sm (Q : List Ed) (v : Nat) : cntE Q v = sm (fun j => (if (edAt Q j).f = (v : Int) then 1 else 0) + (if (edAt Q j).t = (v : Int) then 1 else 0)) Q.length := by
  induction Q with
  | nil => rfl
  | cons e Q ih =>
    rw [cntE_cons, ih, List.length_cons, sm_shift]
    show _ = ((if e.f = (v : Int) then 1 else 0) + (if e.t = (v : Int) then 1 else 0)) + sm (fun j => (if (edAt Q j).f = (v : Int) then 1 else 0) + (if (edAt Q j).t = (v : Int) then 1 else 0)) Q.length
    omega
theorem sumE_sm (Q : List Ed) : sumE Q = sm (fun j => (edAt Q j).k) Q.length := by
  induction Q with
  | nil => rfl
  | cons e Q ih =>
    rw [sumE_cons, ih, List.length_cons, sm_shift]
    show _ = e.k + sm (fun j => (edAt Q j).k) Q.length
    omega
theorem tak_all (Q : List Ed) (v : Nat) : ∀ k, k ≤ Q.length → takTo Q (allTo Q.length) k v = sm (fun j => (if (edAt Q j).f = (v : Int) then 1 else 0) + (if (edAt Q j).t = (v : Int) then 1 else 0)) k := by
  intro k
  induction k with
  | zero => intro _; rfl
  | succ k ih =>
    intro hk
    have ef : frm Q (allTo Q.length) k = (edAt Q k).f := by unfold frm; rw [allTo_at (by omega), Int.toNat_natCast]
    have et : tto Q (allTo Q.length) k = (edAt Q k).t := by unfold tto; rw [allTo_at (by omega), Int.toNat_natCast]
    rw [takTo_succ, sm_succ, ih (by omega), ef, et]; omega
theorem csum_all (Q : List Ed) : csum Q (allTo Q.length) Q.length = sumE Q := by
  rw [sumE_sm]
  unfold csum
  exact sm_congr fun j hj => by rw [allTo_at hj, Int.toNat_natCast]
theorem rise_all (n : Nat) : ∀ k, k ≤ n → RiseTo (allTo n) (n : Int) k := fun k hk j hj => by
  rw [allTo_at (by omega)]
  refine ⟨?_, by omega⟩
  cases j with
  | zero => simp only [lastOf]; omega
  | succ j => simp only [lastOf]; rw [allTo_at (by omega)]; omega

/-- Pairs of nodes as pairs of places. -/
def toPlc (p : Nat → Bool) (e : Ed) : Ed := ⟨(plcU p e.f.toNat : Nat), (plcU p e.t.toNat : Nat), 0, e.k⟩
theorem sum_plc (p : Nat → Bool) (Q : List Ed) : sumE (Q.map (toPlc p)) = sumE Q := by
  induction Q with
  | nil => rfl
  | cons e Q ih => rw [List.map_cons, sumE_cons, sumE_cons, ih]; rfl
theorem plc_inj {p : Nat → Bool} {v u : Nat} (hv : p v = true) (hu : p u = true) (e : plcU p v = plcU p u) : v = u := by
  have a := (uneven_at p hv (v + u + 1) (by omega)).2
  have b := (uneven_at p hu (v + u + 1) (by omega)).2
  rw [e, b] at a
  omega
theorem cnt_plc {p : Nat → Bool} {Q : List Ed} (hQ : ∀ e ∈ Q, (0 ≤ e.f ∧ p e.f.toNat = true) ∧ (0 ≤ e.t ∧ p e.t.toNat = true)) {a : Nat} (ha : p a = true) : cntE (Q.map (toPlc p)) (plcU p a) = cntE Q a := by
  induction Q with
  | nil => rfl
  | cons e Q ih =>
    rw [List.map_cons, cntE_cons, cntE_cons, ih (fun x hx => hQ x (List.mem_cons_of_mem _ hx))]
    obtain ⟨⟨f0, f1⟩, t0, t1⟩ := hQ e List.mem_cons_self
    have ef : (((plcU p e.f.toNat : Nat) : Int) = ((plcU p a : Nat) : Int)) ↔ e.f = (a : Int) := ⟨fun h => by have := plc_inj f1 ha (by omega); omega, fun h => by rw [h]; simp⟩
    have et : (((plcU p e.t.toNat : Nat) : Int) = ((plcU p a : Nat) : Int)) ↔ e.t = (a : Int) := ⟨fun h => by have := plc_inj t1 ha (by omega); omega, fun h => by rw [h]; simp⟩
    simp only [toPlc, ef, et]
theorem cnt_plc0 {p : Nat → Bool} {i : Nat} {Q : List Ed} (hQ : ∀ e ∈ Q, plcU p e.f.toNat ≠ i ∧ plcU p e.t.toNat ≠ i) : cntE (Q.map (toPlc p)) i = 0 := by
  induction Q with
  | nil => rfl
  | cons e Q ih =>
    rw [List.map_cons, cntE_cons, ih (fun x hx => hQ x (List.mem_cons_of_mem _ hx))]
    obtain ⟨f1, t1⟩ := hQ e List.mem_cons_self
    have g1 : ¬ (toPlc p e).f = (i : Int) := fun t => by
      have t : ((plcU p e.f.toNat : Nat) : Int) = (i : Int) := t
      omega
    have g2 : ¬ (toPlc p e).t = (i : Int) := fun t => by
      have t : ((plcU p e.t.toNat : Nat) : Int) = (i : Int) := t
      omega
    rw [if_neg g1, if_neg g2]; rfl

theorem cnt_total {N : Nat} : ∀ {Q : List Ed}, (∀ e ∈ Q, (0 ≤ e.f ∧ e.f < (N : Int)) ∧ (0 ≤ e.t ∧ e.t < (N : Int))) → sm (cntE Q) N = 2 * (Q.length : Int) := by
  intro Q
  induction Q with
  | nil =>
    intro _
    have : sm (cntE []) N = sm (fun _ => 0) N := sm_congr fun v _ => rfl
    rw [this, sm_zero]; rfl
  | cons e Q ih =>
    intro h
    obtain ⟨⟨f0, f1⟩, t0, t1⟩ := h e List.mem_cons_self
    have st : sm (cntE (e :: Q)) N = (sm (cntE Q) N + sm (fun v => if e.f = (v : Int) then 1 else 0) N) + sm (fun v => if e.t = (v : Int) then 1 else 0) N := by
      rw [← sm_add, ← sm_add]
      exact sm_congr fun v _ => rfl
    rw [st, ih (fun x hx => h x (List.mem_cons_of_mem _ hx)), sm_pick (fun _ => 1) e.f N f0 f1, sm_pick (fun _ => 1) e.t N t0 t1, List.length_cons]
    omega

theorem pairOf_symm (Y : List Int) (ss : Sets) (ns u v : Nat) : pairOf Y ss ns u v = pairOf Y ss ns v u := by
  unfold pairOf
  rw [Int.add_comm]
  congr 1
  refine sm_congr fun i _ => ?_
  rw [Bool.and_comm]

/-- What Doubled proves: no other edges that make all even cost less. -/
theorem even_le {es : List Ed} {N n : Nat} (RG : Right N n es) (hm : NoMinus es n) {m : List Int} {lm : Nat} {ds : List (List Int)} {nd : Nat} {Y : List Int} {my : Nat} {ss : Sets} {ns : Nat} (hD : DblOk es N n m lm ds nd Y my ss ns) {o : List Int} {lo : Nat} (hO : EvOk es N n o lo) : csum es m lm ≤ csum es o lo := by
  obtain ⟨-, -, ⟨hnd, hrow⟩, hW, hP, hworth⟩ := hD
  obtain ⟨ris, hun⟩ := hO
  obtain ⟨Q, q1, q2, q3⟩ := pairs_of RG.ends hm (ds := ds) (nd := nd) (fun i hi j hj => (hrow i hi).2.2 j hj) ris lo (Nat.le_refl _)
  obtain ⟨p, hp⟩ : ∃ p, odTo es o lo = p := ⟨_, rfl⟩
  rw [hp] at q2 hun
  rw [← hun] at hnd hrow hW hP
  obtain ⟨nu, hnu⟩ : ∃ nu, (unevTo p N).length = nu := ⟨_, rfl⟩
  rw [hnu] at hnd hW hP
  subst hnd
  have my1 : my = nd := hW.1.1
  subst my1
  -- each end of a pair is uneven
  have endp : ∀ e ∈ Q, (0 ≤ e.f ∧ p e.f.toNat = true) ∧ (0 ≤ e.t ∧ p e.t.toNat = true) := by
    have key : ∀ (Q : List Ed), (∀ e ∈ Q, 0 ≤ e.f ∧ 0 ≤ e.t) → ∀ e ∈ Q, 1 ≤ cntE Q e.f.toNat ∧ 1 ≤ cntE Q e.t.toNat := by
      intro Q
      induction Q with
      | nil => intro _ e he; cases he
      | cons x Q ih =>
        intro h e he
        obtain ⟨x1, x2⟩ := h x List.mem_cons_self
        rw [cntE_cons, cntE_cons]
        rcases List.mem_cons.1 he with rfl | he
        · have a := cntE_nn Q e.f.toNat
          have b := cntE_nn Q e.t.toNat
          rw [if_pos (show e.f = ((e.f.toNat : Nat) : Int) by omega), if_pos (show e.t = ((e.t.toNat : Nat) : Int) by omega)]
          constructor
          · split <;> omega
          · split <;> omega
        · obtain ⟨a, b⟩ := ih (fun y hy => h y (List.mem_cons_of_mem _ hy)) e he
          constructor
          · split <;> split <;> omega
          · split <;> split <;> omega
    intro e he
    obtain ⟨a, b⟩ := key Q (fun e he => ⟨(q1 e he).1.1, (q1 e he).2.1.1⟩) e he
    rw [q2] at a b
    unfold ones1 at a b
    refine ⟨⟨(q1 e he).1.1, ?_⟩, (q1 e he).2.1.1, ?_⟩
    · cases h : p e.f.toNat with
      | true => rfl
      | false => rw [h] at a; simp at a
    · cases h : p e.t.toNat with
      | true => rfl
      | false => rw [h] at b; simp at b
  obtain ⟨R, hR⟩ : ∃ R, Q.map (toPlc p) = R := ⟨_, rfl⟩
  have lenR : R.length = Q.length := by rw [← hR, List.length_map]
  have at_ : ∀ j, j < R.length → ∃ e ∈ Q, edAt R j = toPlc p e := fun j hj => by
    have := edAt_memE hj
    rw [← hR] at this
    obtain ⟨e, he, t⟩ := List.mem_map.1 this
    exact ⟨e, he, by rw [← hR]; exact t.symm⟩
  have plt : ∀ v, p v = true → v < N → plcU p v < my := fun v hv hN => by rw [← hnu]; exact (uneven_at p hv N hN).1
  have ends : EndsIn R my R.length := fun j hj => by
    obtain ⟨e, he, t⟩ := at_ j hj
    obtain ⟨⟨a0, a1⟩, b0, b1⟩ := endp e he
    obtain ⟨c1, c2, -, -⟩ := q1 e he
    have x := plt _ a1 (by omega)
    have y := plt _ b1 (by omega)
    rw [t]
    simp only [toPlc]
    omega
  have tot : 2 * R.length = my := by
    have a := cnt_total (N := N) (Q := Q) (fun e he => ⟨(q1 e he).1, (q1 e he).2.1⟩)
    have b := uneven_len p N
    have c : sm (cntE Q) N = sm (ones1 p) N := sm_congr fun v _ => q2 v
    rw [lenR]
    omega
  have cnt1 : ∀ i, cntE R i ≤ 1 := fun i => by
    by_cases h : ∃ a, p a = true ∧ plcU p a = i
    · obtain ⟨a, ha, rfl⟩ := h
      rw [← hR, cnt_plc endp ha, q2]
      unfold ones1
      split <;> omega
    · rw [← hR, cnt_plc0 (fun e he => ⟨fun t => h ⟨_, (endp e he).1.2, t⟩, fun t => h ⟨_, (endp e he).2.2, t⟩⟩)]
      omega
  have ok : MatchOk R R.length (allTo R.length) R.length := by
    refine (tak_one (n := R.length) (N := my) ends).1 ⟨rise_all _ _ (Nat.le_refl _), fun j hj => ?_, fun v hv => ?_⟩
    · obtain ⟨e, he, t⟩ := at_ j hj
      unfold frm tto
      rw [allTo_at hj, Int.toNat_natCast, t]
      simp only [toPlc]
      intro h
      have := plc_inj (endp e he).1.2 (endp e he).2.2 (by omega)
      have c := q1 e he
      exact c.2.2.1 (by omega)
    · rw [tak_all _ _ _ (Nat.le_refl _), ← cntE_sm, onesTo_at hv]
      exact cnt1 v
  have prs : ∀ j, j < R.length → lp R j = true ∨ pairOf Y ss ns (edAt R j).f.toNat (edAt R j).t.toNat ≤ 2 * (edAt R j).k := fun j hj => by
    right
    obtain ⟨e, he, t⟩ := at_ j hj
    obtain ⟨⟨a0, a1⟩, b0, b1⟩ := endp e he
    obtain ⟨c1, c2, c3, c4⟩ := q1 e he
    have x := plt _ a1 (by omega)
    have y := plt _ b1 (by omega)
    have ux := (uneven_at p a1 N (by omega)).2
    have uy := (uneven_at p b1 N (by omega)).2
    rw [t]
    simp only [toPlc, Int.toNat_natCast]
    rcases Nat.lt_trichotomy (plcU p e.f.toNat) (plcU p e.t.toNat) with l | l | l
    · have b := hP _ y _ l
      unfold Within at b
      rw [uy, Int.toNat_natCast] at b
      have z := (hrow _ x).2.1
      rw [ux, Int.toNat_natCast] at z
      have d := c4.2 _ x
      omega
    · exact absurd (plc_inj a1 b1 l) (by omega)
    · have b := hP _ x _ l
      unfold Within at b
      rw [ux, Int.toNat_natCast, pairOf_symm] at b
      have z := (hrow _ y).2.1
      rw [uy, Int.toNat_natCast] at z
      have d := c4.2 _ y
      omega
  have fin := dual_le ends hW prs ok tot
  rw [csum_all, ← hR, sum_plc] at fin
  omega
end Go.Proofs.YtpdppjngbbkbbaaDoor
namespace Go.Proofs.YtpdppjngbbkbbaaDoor
open Go.RowKit

open Classical in
/-- The code of a graph with its costs. -/
noncomputable def costCode (nodes : Int) (es : List Ed) (n : Nat) : Int := if (faultOf nodes es).1 ≠ 0 then (faultOf nodes es).1 else if ¬ NoMinus es n then 80 else 0

set_option maxRecDepth 100000 in
set_option linter.unusedSimpArgs false in
set_option maxHeartbeats 2000000 in
theorem costsR_calls (nodes : Int) (ao : Option Addr) (n cap : Nat) (es : List Ed) (w : World) (h : ERow w ao n cap es) (z : Int) (hz : Hid (costCode nodes es n = z)) :
    Calls Tryd.prog 46 #[.agg #[.int .i64 nodes, .slice ao n cap]] w fun e w' => e = .returned (.int .i64 z) ∧ Kept w w' := by
  obtain ⟨c, a, hf⟩ : ∃ c a, faultOf nodes es = (c, a) := ⟨_, _, rfl⟩
  have hz' := hz.out
  unfold costCode at hz'
  rw [hf] at hz'
  have hr := h.room
  have hm := h.most
  unfold maxLen at hm
  have KW : Kept w (w.alloc (Obj.cells #[.int .i64 nodes, .slice ao n cap] 24)) := (Kept.refl w).alloc _
  have w0 : (w.alloc (Obj.cells #[.int .i64 nodes, .slice ao n cap] 24)).cell? ⟨w.heap.size, 0, none⟩ = some (.int .i64 nodes) := by simp [go_sem]
  have w1 : (w.alloc (Obj.cells #[.int .i64 nodes, .slice ao n cap] 24)).cell? ⟨w.heap.size, 1, none⟩ = some (.slice ao n cap) := by simp [go_sem]
  have CH := hid_of (checkR_calls nodes ao n cap es _ (h.kept KW) c a (hid_of hf))
  have HE := hid_of h
  clear h hz
  by_cases hc : c = 0
  rotate_left
  · rw [if_pos hc] at hz'
    subst hz'
    have q : (c == 0) = false := by simpa using hc
    clear hc hf
    go_enter Tryd.func46, Tryd.ntmps46
    go_wp2_with fail
    refine CH.out.mono ?_
    rintro e wa ⟨rfl, K1⟩
    have HK := hid_of (KW.trans K1)
    clear KW K1 CH w0 w1
    go_wp2_with fail
    go_loopw [3, 5] (fun s i wr => i = .int .i64 0 ∧ s = .int .i64 c ∧ wa = wr) (fun _ _ _ => 0)
    case atStart => exact ⟨rfl, rfl, rfl⟩
    case round =>
      obtain ⟨rfl, rfl, rfl⟩ := hrel
      go_wp2
      go_ret
      exact ⟨rfl, HK.out⟩
  subst hc
  rw [if_neg (by simp)] at hz'
  have HZ := hid_of hz'
  clear hz' hf
  go_enter Tryd.func46, Tryd.ntmps46
  go_wp2_with fail
  refine CH.out.mono ?_
  rintro e wa ⟨rfl, K1⟩
  have HK := hid_of (KW.trans K1)
  replace w1 := K1.cell w1
  clear KW K1 CH w0
  go_wp2_with fail
  go_loopw [3, 5] (fun s i wr => wa = wr ∧ ((∃ (k : Nat), k ≤ n ∧ i = .int .i64 k ∧ s = .int .i64 0 ∧ ∀ j, j < k → 0 ≤ (edAt es j).k) ∨ (∃ (k : Nat), k ≤ n ∧ i = .int .i64 k ∧ s = .int .i64 80 ∧ ¬ NoMinus es n))) (fun s i _ => (n - (intOf i).toNat) )
  case atStart => exact ⟨rfl, .inl ⟨0, by omega, rfl, rfl, fun i hi => by omega⟩⟩
  case round =>
    obtain ⟨rfl, hrel⟩ := hrel
    rcases hrel with ⟨k, hk, rfl, rfl, hno⟩ | ⟨k, hk, rfl, rfl, hno⟩
    · have HNO := hid_of hno
      clear hno
      by_cases hgo : (k : Int) < (n : Int)
      · obtain ⟨b, off, rfl, hc⟩ := (HE.out.kept HK.out).cell (by omega)
        obtain ⟨d1, d2, d3, d4⟩ := hc k (by omega)
        have HIT : Hid (0 ≤ (edAt es k).k → ∀ j, j < k + 1 → 0 ≤ (edAt es j).k) := fun hb i hi => by
          by_cases e : i = k
          · subst e; exact hb
          · exact HNO.out i (by omega)
        have MISS : Hid (¬ 0 ≤ (edAt es k).k → ¬ NoMinus es n) := fun hb q => hb (q k (by omega))
        clear hc d1 d2 d3
        generalize (edAt es k).k = x at d4 HIT MISS
        by_cases hx : 0 ≤ x
        · have P := hid_of (HIT.out hx)
          have q0 : decide (x < 0) = false := decide_eq_false (by omega)
          clear HIT MISS hx
          go_wp2_with fail
          go_roundw
          case rel => exact ⟨by trivial, .inl ⟨k + 1, by omega, by go_num, rfl, P.out⟩⟩
          case measure => simp [intOf]; omega
        · have P := hid_of (MISS.out hx)
          have q0 : decide (x < 0) = true := decide_eq_true (by omega)
          clear HIT MISS hx
          go_wp2_with fail
          go_roundw
          case rel => exact ⟨by trivial, .inr ⟨k + 1, by omega, by go_num, rfl, P.out⟩⟩
          case measure => simp [intOf]; omega
      · obtain rfl : k = n := by omega
        have e := HZ.out
        rw [if_neg (fun t => t (show NoMinus es k from HNO.out))] at e
        subst e
        clear HZ
        go_wp2
        go_ret
        exact ⟨rfl, HK.out⟩
    · have e := HZ.out
      rw [if_pos hno] at e
      subst e
      clear HZ hno
      go_wp2
      go_ret
      exact ⟨rfl, HK.out⟩

end Go.Proofs.YtpdppjngbbkbbaaDoor
namespace Go.Proofs.YtpdppjngbbkbbaaDoor
open Go.RowKit

set_option maxRecDepth 100000 in
set_option linter.unusedSimpArgs false in
set_option maxHeartbeats 4000000 in
theorem nearR_calls (N : Nat) (ao : Option Addr) (n cap : Nat) (es : List Ed) (ro : Option Addr) (rl rc : Nat) (row : List Int) (u : Nat) (hu : u < N) (w : World) (h : ERow w ao n cap es) (hJ : JRow w ro rl rc row) (RG : Right N n es) :
    Calls Tryd.prog 87 #[.agg #[.int .i64 (N : Int), .slice ao n cap], .slice ro rl rc, .int .i64 (u : Int)] w fun r w' => Kept w w' ∧ ((RowOk es N n row (u : Int) ∧ r = .returned (.bool true)) ∨ (¬ RowOk es N n row (u : Int) ∧ r = .returned (.bool false))) := by
  have hnot : ∀ (x : Bool) (w : World), (Op.unary .not (.bool x)).run Tryd.prog w = .ok (.bool (!x)) w := fun _ _ => rfl
  have hr0 := h.room
  have hm0 := h.most
  have hr1 := hJ.room
  have hm1 := hJ.most
  unfold maxLen at hm0 hm1
  have KW : Kept w (w.alloc (Obj.cells #[.int .i64 (N : Int), .slice ao n cap] 24)) := (Kept.refl w).alloc _
  have w0 : (w.alloc (Obj.cells #[.int .i64 (N : Int), .slice ao n cap] 24)).cell? ⟨w.heap.size, 0, none⟩ = some (.int .i64 (N : Int)) := by simp [go_sem]
  have w1 : (w.alloc (Obj.cells #[.int .i64 (N : Int), .slice ao n cap] 24)).cell? ⟨w.heap.size, 1, none⟩ = some (.slice ao n cap) := by simp [go_sem]
  have HE := hid_of h
  have HJ := hid_of hJ
  have HLN := hid_of hJ.len
  have RGH := hid_of RG
  clear h hJ RG
  go_enter Tryd.func87, Tryd.ntmps87
  go_wp2_with fail
  generalize w.alloc (Obj.cells #[.int .i64 (N : Int), .slice ao n cap] 24) = W1 at KW w0 w1 ⊢
  refine (potsR_calls N (.slice ao n cap) ro rl rc row W1 (HJ.out.kept KW)).mono ?_
  rintro e wa ⟨K1, ⟨pok, rfl⟩ | ⟨pok, rfl⟩⟩
  rotate_left
  · have HK := hid_of (KW.trans K1)
    have P : Hid (¬ RowOk es N n row (u : Int)) := fun t => pok (by rw [HLN.out]; exact t.1)
    clear KW K1 w0 w1 pok
    go_wp2
    go_ret
    exact ⟨HK.out, .inr ⟨P.out, rfl⟩⟩
  have KA := hid_of (KW.trans K1)
  have W1H := hid_of (K1.cell w1)
  have POK := hid_of pok
  obtain rfl : rl = N := pok.1
  have w1 := W1H.out
  clear KW K1 w0 pok
  obtain ⟨b0, o0, hro, hc0⟩ := (HJ.out.kept KA.out).at (by omega)
  have d0 := hc0 u hu
  have HC0 := hid_of hc0
  subst hro
  obtain ⟨x0, hx0⟩ : ∃ x, zAt row u = x := ⟨_, rfl⟩
  rw [hx0] at d0
  have HX0 := hid_of hx0
  clear hc0 hx0
  by_cases hz : x0 = 0
  rotate_left
  · have q : (x0 != 0) = true := by simpa using hz
    have P : Hid (¬ RowOk es rl n row (u : Int)) := fun t => hz (by rw [← HX0.out]; have := t.2.1; rwa [Int.toNat_natCast] at this)
    clear hz
    go_wp2
    go_ret
    exact ⟨KA.out, .inr ⟨P.out, rfl⟩⟩
  have q : (x0 != 0) = false := by simpa using hz
  have HZ := hid_of hz
  clear hz
  go_wp2_with fail
  go_loopw [7, 8] (fun i _ w2 => ∃ (j : Nat), j ≤ n ∧ i = .int .i64 j ∧ Kept wa w2 ∧ ∀ q, q < j → NearE es row q) (fun i _ _ => n - (intOf i).toNat)
  case atStart => exact ⟨0, by omega, rfl, Kept.refl _, fun i hi => by omega⟩
  case round =>
    obtain ⟨j, hj, rfl, K, hno⟩ := hrel
    have HNO := hid_of hno
    have KH := hid_of K
    have w1 := K.cell W1H.out
    clear hno
    by_cases hgo2 : (j : Int) < (n : Int)
    · obtain ⟨b, off, hao, hc⟩ := (HE.out.kept (KA.out.trans K)).cell (by omega)
      obtain ⟨d1, d2, d3, d4⟩ := hc j (by omega)
      obtain ⟨e1, e2, e3, e4⟩ := RGH.out.ends j (by omega)
      obtain ⟨l1, l2⟩ := RGH.out.costs j (by omega)
      have p1 := K.cell (HC0.out (edAt es j).f.toNat (by omega))
      have p2 := K.cell (HC0.out (edAt es j).t.toNat (by omega))
      obtain ⟨m1, m2⟩ := POK.out.2 (edAt es j).f.toNat (by omega)
      obtain ⟨m3, m4⟩ := POK.out.2 (edAt es j).t.toNat (by omega)
      have HIT : Hid (NearE es row j → ∀ q, q < j + 1 → NearE es row q) := fun hb i hi => by
        by_cases e : i = j
        · subst e; exact hb
        · exact HNO.out i (by omega)
      have MISS : Hid (¬ NearE es row j → ¬ RowOk es rl n row (u : Int)) := fun hb t => hb (t.2.2 j (by omega))
      unfold NearE at HIT MISS
      generalize edAt es j = e at d1 d2 d3 d4 e1 e2 e3 e4 l1 l2 p1 p2 m1 m2 m3 m4 HIT MISS
      obtain ⟨ef, et, ec, ek⟩ := e
      simp only at d1 d2 d3 d4 e1 e2 e3 e4 l1 l2 p1 p2 m1 m2 m3 m4 HIT MISS
      obtain ⟨f, rfl⟩ : ∃ f : Nat, ef = (f : Int) := ⟨ef.toNat, by omega⟩
      obtain ⟨t, rfl⟩ : ∃ t : Nat, et = (t : Int) := ⟨et.toNat, by omega⟩
      simp only [Int.toNat_natCast] at p1 p2 m1 m2 m3 m4 HIT MISS
      have hfr : (f : Int) < (rl : Int) := by omega
      have htr : (t : Int) < (rl : Int) := by omega
      generalize zAt row f = xf at p1 m1 m2 HIT MISS
      generalize zAt row t = xt at p2 m3 m4 HIT MISS
      have WR1 : IntKind.i64.wrap (xt + ek) = xt + ek := wrap_id (by omega) (by omega)
      have WR2 : IntKind.i64.wrap (xf + ek) = xf + ek := wrap_id (by omega) (by omega)
      subst hao
      clear hc K m1 m2 m3 m4 l1 l2
      go_upto_region 7 with fail
      generalize hW : wr.alloc (Obj.cells #[.int .i64 (f : Int), .int .i64 (t : Int), .int .i64 ec, .int .i64 ek] 86) = W3
      obtain ⟨EK, a0, a1, a2, a3, -⟩ := edge_box hW
      replace p1 := EK.cell p1
      replace p2 := EK.cell p2
      have K3 := hid_of (KH.out.trans EK)
      clear d1 d2 d3 d4 EK KH hW a2 w1
      by_cases g1 : xf ≤ xt + ek
      rotate_left
      · have q1 : decide (xt + ek < xf) = true := decide_eq_true (by omega)
        have P := hid_of (MISS.out (fun t => g1 (by omega)))
        clear HIT MISS g1
        refine Ord.region [(0, 0), (1, 0), (2, 1), (3, 0), (4, 1), (5, 0), (6, 0), (7, 1), (8, 0), (9, 1), (10, 0), (11, 1), (12, 0), (13, 0), (14, 0), (15, 0), (16, 0), (17, 1), (18, 0), (19, 1), (20, 0), (21, 0), (22, 1), (23, 0), (24, 1), (25, 0), (26, 1), (27, 0), (28, 0), (29, 0)] (fun w' => Kept W3 w') (by kernel_rfl) (by kernel_rfl) (by kernel_rfl) (by kernel_rfl) (fun _ _ d _ _ h => by cases d <;> exact h) ((Kept.refl _).drewN _) ?_
        repeat
          refine Ord.step rfl (fun Ko hK => ?_)
          simp only [Ord.body]
          go_simp
          first
            | (refine hK _ _ ?_; clear hK Ko)
            | (refine ⟨_, fun w' hS => (by have c0 := hS.cell a0; have c1 := hS.cell a1; have c2 := hS.cell a3; have c3 := hS.cell p1; have c4 := hS.cell p2; simp only [c0, c1, c2, c3, c4, Result.andThen]; rfl), hK _ _ ?_⟩; clear hK Ko)
            | ((simp only [WR1, WR2, q1]))
        refine Ord.done ?_
        have KN := hid_of (KA.out.trans (K3.out.trans ((Kept.refl _).drewN 1)))
        clear a0 a1 a3 p1 p2
        go_wp2
        go_ret
        exact ⟨KN.out, .inr ⟨P.out, rfl⟩⟩
      have q1 : decide (xt + ek < xf) = false := decide_eq_false (by omega)
      by_cases g2 : xt ≤ xf + ek
      rotate_left
      · have q2 : decide (xf + ek < xt) = true := decide_eq_true (by omega)
        have P := hid_of (MISS.out (fun t => g2 (by omega)))
        clear HIT MISS g1 g2
        refine Ord.region [(0, 0), (1, 0), (2, 1), (3, 0), (4, 1), (5, 0), (6, 0), (7, 1), (8, 0), (9, 1), (10, 0), (11, 1), (12, 0), (13, 0), (14, 0), (15, 0), (16, 0), (17, 1), (18, 0), (19, 1), (20, 0), (21, 0), (22, 1), (23, 0), (24, 1), (25, 0), (26, 1), (27, 0), (28, 0), (29, 0)] (fun w' => Kept W3 w') (by kernel_rfl) (by kernel_rfl) (by kernel_rfl) (by kernel_rfl) (fun _ _ d _ _ h => by cases d <;> exact h) ((Kept.refl _).drewN _) ?_
        repeat
          refine Ord.step rfl (fun Ko hK => ?_)
          simp only [Ord.body]
          go_simp
          first
            | (refine hK _ _ ?_; clear hK Ko)
            | (refine ⟨_, fun w' hS => (by have c0 := hS.cell a0; have c1 := hS.cell a1; have c2 := hS.cell a3; have c3 := hS.cell p1; have c4 := hS.cell p2; simp only [c0, c1, c2, c3, c4, Result.andThen]; rfl), hK _ _ ?_⟩; clear hK Ko)
            | ((simp only [WR1, WR2, q1, q2]))
        refine Ord.done ?_
        have KN := hid_of (KA.out.trans (K3.out.trans ((Kept.refl _).drewN 1)))
        clear a0 a1 a3 p1 p2
        go_wp2
        go_ret
        exact ⟨KN.out, .inr ⟨P.out, rfl⟩⟩
      have q2 : decide (xf + ek < xt) = false := decide_eq_false (by omega)
      have P := hid_of (HIT.out (by omega))
      clear HIT MISS g1 g2
      refine Ord.region [(0, 0), (1, 0), (2, 1), (3, 0), (4, 1), (5, 0), (6, 0), (7, 1), (8, 0), (9, 1), (10, 0), (11, 1), (12, 0), (13, 0), (14, 0), (15, 0), (16, 0), (17, 1), (18, 0), (19, 1), (20, 0), (21, 0), (22, 1), (23, 0), (24, 1), (25, 0), (26, 1), (27, 0), (28, 0), (29, 0)] (fun w' => Kept W3 w') (by kernel_rfl) (by kernel_rfl) (by kernel_rfl) (by kernel_rfl) (fun _ _ d _ _ h => by cases d <;> exact h) ((Kept.refl _).drewN _) ?_
      repeat
        refine Ord.step rfl (fun Ko hK => ?_)
        simp only [Ord.body]
        go_simp
        first
          | (refine hK _ _ ?_; clear hK Ko)
          | (refine ⟨_, fun w' hS => (by have c0 := hS.cell a0; have c1 := hS.cell a1; have c2 := hS.cell a3; have c3 := hS.cell p1; have c4 := hS.cell p2; simp only [c0, c1, c2, c3, c4, Result.andThen]; rfl), hK _ _ ?_⟩; clear hK Ko)
          | ((simp only [WR1, WR2, q1, q2]))
      refine Ord.done ?_
      have KN := hid_of (K3.out.trans ((Kept.refl _).drewN 1))
      clear a0 a1 a3 p1 p2
      go_wp2_with fail
      go_roundw
      case rel => exact ⟨j + 1, by omega, by go_num, KN.out, P.out⟩
      case measure => simp [intOf]; omega
    · obtain rfl : j = n := by omega
      have KF := hid_of (KA.out.trans K)
      have P : Hid (RowOk es rl j row (u : Int)) := ⟨by have := POK.out; rw [← HLN.out]; exact this, by rw [Int.toNat_natCast, HX0.out]; exact HZ.out, HNO.out⟩
      clear K KH
      go_wp2
      go_ret
      exact ⟨KF.out, .inl ⟨P.out, rfl⟩⟩

theorem unev_at {p : Nat → Bool} {N i : Nat} (hi : i < (unevTo p N).length) : 0 ≤ zAt (unevTo p N) i ∧ zAt (unevTo p N) i < (N : Int) := by
  have hm : zAt (unevTo p N) i ∈ unevTo p N := by
    unfold zAt
    rw [List.getD_eq_getElem?_getD, List.getElem?_eq_getElem hi]
    exact List.getElem_mem hi
  exact unevTo_rng p N _ hm

set_option maxRecDepth 100000 in
set_option linter.unusedSimpArgs false in
set_option maxHeartbeats 4000000 in
theorem doubledR_calls (nodes : Int) (ao : Option Addr) (n cap : Nat) (es : List Ed) (mo : Option Addr) (lm mc : Nat) (m : List Int) (dO : Option Addr) (nd dc : Nat) (ds : List (List Int)) (yo : Option Addr) (my yc : Nat) (Y : List Int) (so : Option Addr) (ns sc : Nat) (ss : Sets) (w : World) (h : ERow w ao n cap es) (hJ : JRow w mo lm mc m) (hD : LRow w dO nd dc ds) (hY : JRow w yo my yc Y) (hS : DRow w so ns sc ss) (v code : Int) (hans : Hid (dblAns nodes es n m lm ds nd Y my ss ns = (v, code))) :
    Calls Tryd.prog 36 #[.agg #[.int .i64 nodes, .slice ao n cap], .slice mo lm mc, .slice dO nd dc, .agg #[.slice yo my yc, .slice so ns sc]] w fun e w' => e = .returned (.tuple #[.int .i64 v, .int .i64 code]) ∧ Kept w w' := by
  have hnot : ∀ (x : Bool) (w : World), (Op.unary .not (.bool x)).run Tryd.prog w = .ok (.bool (!x)) w := fun _ _ => rfl
  obtain ⟨z, A3⟩ : ∃ z, costCode nodes es n = z := ⟨_, rfl⟩
  have hr0 := h.room
  have hm0 := h.most
  have hr1 := hJ.room
  have hm1 := hJ.most
  have hr2 := hD.room
  have hm2 := hD.most
  unfold maxLen at hm0 hm1 hm2
  have KW : Kept w ((w.alloc (Obj.cells #[.int .i64 nodes, .slice ao n cap] 24)).alloc (Obj.cells #[.slice yo my yc, .slice so ns sc] 50)) := ((Kept.refl w).alloc _).alloc _
  have w0 : ((w.alloc (Obj.cells #[.int .i64 nodes, .slice ao n cap] 24)).alloc (Obj.cells #[.slice yo my yc, .slice so ns sc] 50)).cell? ⟨w.heap.size, 0, none⟩ = some (.int .i64 nodes) := by simp [go_sem]
  have w1 : ((w.alloc (Obj.cells #[.int .i64 nodes, .slice ao n cap] 24)).alloc (Obj.cells #[.slice yo my yc, .slice so ns sc] 50)).cell? ⟨w.heap.size, 1, none⟩ = some (.slice ao n cap) := by simp [go_sem]
  have y0 : ((w.alloc (Obj.cells #[.int .i64 nodes, .slice ao n cap] 24)).alloc (Obj.cells #[.slice yo my yc, .slice so ns sc] 50)).cell? ⟨w.heap.size + 1, 0, none⟩ = some (.slice yo my yc) := by simp [go_sem]
  have y1 : ((w.alloc (Obj.cells #[.int .i64 nodes, .slice ao n cap] 24)).alloc (Obj.cells #[.slice yo my yc, .slice so ns sc] 50)).cell? ⟨w.heap.size + 1, 1, none⟩ = some (.slice so ns sc) := by simp [go_sem]
  have HE := hid_of h
  have HJ := hid_of hJ
  have HD := hid_of hD
  have HY := hid_of hY
  have HS := hid_of hS
  have HA3 := hid_of A3
  clear h hJ hD hY hS A3
  go_enter Tryd.func36, Tryd.ntmps36
  go_wp2_with fail
  generalize (w.alloc (Obj.cells #[.int .i64 nodes, .slice ao n cap] 24)).alloc (Obj.cells #[.slice yo my yc, .slice so ns sc] 50) = W1 at KW w0 w1 y0 y1 ⊢
  refine (costsR_calls nodes ao n cap es W1 (HE.out.kept KW) z HA3).mono ?_
  rintro e wa ⟨rfl, K1⟩
  have K := hid_of (KW.trans K1)
  replace w0 := K1.cell w0
  replace w1 := K1.cell w1
  replace y0 := K1.cell y0
  replace y1 := K1.cell y1
  clear K1 KW
  by_cases hz : z = 0
  rotate_left
  · have e := hans.out
    have e3 := HA3.out
    have e4 : v = 0 ∧ code = z := by
      unfold dblAns at e
      unfold costCode at e3
      split at e
      · rename_i t
        rw [if_pos t] at e3
        exact ⟨(Prod.mk.inj e).1.symm, by rw [← e3]; exact (Prod.mk.inj e).2.symm⟩
      · rename_i t
        rw [if_neg t] at e3
        split at e
        · rename_i t2
          rw [if_pos t2] at e3
          exact ⟨(Prod.mk.inj e).1.symm, by rw [← e3]; exact (Prod.mk.inj e).2.symm⟩
        · rename_i t2
          rw [if_neg t2] at e3
          exact absurd e3.symm hz
    obtain ⟨rfl, rfl⟩ := e4
    have q : (code != 0) = true := by simpa using hz
    clear hz e e3 hans HA3 w0 w1 y0 y1
    go_wp2
    go_ret2
    exact ⟨rfl, K.out⟩
  subst hz
  have hfm : (faultOf nodes es).1 = 0 ∧ NoMinus es n := by
    have e3 := HA3.out
    unfold costCode at e3
    split at e3
    · rename_i t; exact absurd e3 t
    · rename_i t
      split at e3
      · omega
      · rename_i t2; exact ⟨by simpa using t, Classical.not_not.1 t2⟩
  obtain ⟨hf, hmin⟩ := hfm
  obtain ⟨N, rfl, RG⟩ := right_of (fault_zero hf)
  rw [← HE.out.len] at RG
  have hN := RG.nodes
  have hn := RG.edges
  have RGH := hid_of RG
  have ANS : Hid ((DblOk es N n m lm ds nd Y my ss ns → v = csum es (allTo n) n + csum es m lm ∧ code = 0) ∧ (¬ DblOk es N n m lm ds nd Y my ss ns → v = 0 ∧ code = 221)) := by
    have e := hans.out
    unfold dblAns at e
    rw [if_neg (by simp [hf]), if_neg (fun t => t hmin), Int.toNat_natCast] at e
    refine ⟨fun t => ?_, fun t => ?_⟩
    · rw [if_pos t] at e
      obtain ⟨rfl, rfl⟩ := Prod.mk.inj e
      exact ⟨rfl, rfl⟩
    · rw [if_neg t] at e
      obtain ⟨rfl, rfl⟩ := Prod.mk.inj e
      exact ⟨rfl, rfl⟩
  have NO : Hid (¬ DblOk es N n m lm ds nd Y my ss ns → v = 0 ∧ code = 221) := ANS.out.2
  have AC := hid_of (fun w' => allR_calls (N : Int) ao n cap hn w')
  have UC := hid_of (fun w' (K' : Kept wa w') qo qc (J : JRow w' qo n qc (allTo n)) => unevenR_calls N hN ao n cap es qo n qc (allTo n) w' (HE.out.kept (K.out.trans K')) J (fun j hj => by rw [allTo_at hj]; omega) hn)
  have G0 := hid_of w0
  have G1 := hid_of w1
  have Y0 := hid_of y0
  have Y1 := hid_of y1
  clear hans hf RG HA3 hmin
  go_wp2_with fail
  refine Ord.region [(0, 1), (1, 1), (2, 2), (3, 2), (4, 0)] (fun w' => Kept wa w') (by kernel_rfl) (by kernel_rfl) (by kernel_rfl) (by kernel_rfl) (fun _ _ d _ _ h => by cases d <;> exact h) ((Kept.refl _).drewN _) ?_
  repeat
    refine Ord.step rfl (fun Ko hK => ?_)
    simp only [Ord.body]
    go_simp
    first
      | (refine hK _ _ ?_; clear hK Ko)
      | (refine ⟨_, fun w' hS => (by have c0 := hS.cell w0; have c1 := hS.cell w1; simp only [c0, c1, Result.andThen]; rfl), hK _ _ ?_⟩; clear hK Ko)
      | (go_at_call 39; refine (AC.out _).mono ?_; clear AC; rintro e wm ⟨qo, qc, rfl, JA, KM⟩; refine ⟨((Kept.refl _).drewN _).trans KM, hK _ _ ?_⟩; clear hK Ko)
      | (go_at_call 86; refine (UC.out _ (((Kept.refl _).drewN _).trans KM) _ _ JA).mono ?_; clear UC; rintro e wn ⟨uo, nu, uc, rfl, JU, KN⟩; refine ⟨(((Kept.refl _).drewN _).trans KM).trans KN, hK _ _ ?_⟩; clear hK Ko)
  refine Ord.done ?_
  have K3 := hid_of ((((Kept.refl wa).drewN 1).trans KM).trans KN)
  have KB := hid_of (K.out.trans K3.out)
  have JUH := hid_of JU
  have hnu := hid_of JU.len
  have hru := JU.room
  have hmu := JU.most
  unfold maxLen at hmu
  have hnuN : nu ≤ N := by have := hnu.out; have := unevTo_len (odTo es (allTo n) n) N; omega
  replace w0 := K3.out.cell G0.out
  replace w1 := K3.out.cell G1.out
  replace y0 := K3.out.cell Y0.out
  replace y1 := K3.out.cell Y1.out
  have URNG := hid_of (fun i (hi : i < nu) => unev_at (p := odTo es (allTo n) n) (N := N) (i := i) (by rw [← hnu.out]; exact hi))
  have UNE : Hid (unevAll es N n = unevTo (odTo es (allTo n) n) N) := rfl
  obtain ⟨un, hun⟩ : ∃ un, unevTo (odTo es (allTo n) n) N = un := ⟨_, rfl⟩
  rw [hun] at JUH hnu URNG UNE
  have UNH := hid_of UNE.out
  clear KM KN JA JU K K3 G0 G1 Y0 Y1 hun UNE
  have EC := hid_of (evensR_calls N ao n cap es mo lm mc m wn (HE.out.kept KB.out) (HJ.out.kept KB.out) RGH.out)
  go_wp2_with fail
  refine EC.out.mono ?_
  rintro e w5 ⟨K5, ⟨hev, rfl⟩ | ⟨hev, rfl⟩⟩
  rotate_left
  · obtain ⟨rfl, rfl⟩ := NO.out (fun t => hev ⟨t.1, t.2.1⟩)
    have KE := hid_of (KB.out.trans K5)
    clear K5 EC w0 w1 y0 y1 hev ANS NO
    go_wp2
    go_ret2
    exact ⟨rfl, KE.out⟩
  have KE := hid_of (KB.out.trans K5)
  have JU5 := hid_of (JUH.out.kept K5)
  have EV := hid_of hev
  replace w0 := K5.cell w0
  replace w1 := K5.cell w1
  replace y0 := K5.cell y0
  replace y1 := K5.cell y1
  clear K5 EC hev KB JUH
  by_cases hdn : nd = nu
  rotate_left
  · obtain ⟨rfl, rfl⟩ := NO.out (fun t => hdn (by have := t.2.2.1.1; rw [UNH.out] at this; have := hnu.out; omega))
    have q : ((nd : Int) != (nu : Int)) = true := by rw [bne_iff_ne]; omega
    clear w0 w1 y0 y1 ANS NO
    go_wp2
    go_ret2
    exact ⟨rfl, KE.out⟩
  subst hdn
  have q : ((nd : Int) != (nd : Int)) = false := by simp
  have WC := hid_of (weightsR_calls nd yo my yc Y so ns sc ss w5 (HY.out.kept KE.out) (HS.out.kept KE.out))
  go_wp2_with fail
  refine WC.out.mono ?_
  rintro e w6 ⟨K6, ⟨wok, rfl⟩ | ⟨wok, rfl⟩⟩
  rotate_left
  · obtain ⟨rfl, rfl⟩ := NO.out (fun t => wok (by have := t.2.2.2.1; rw [UNH.out, ← hnu.out] at this; exact this))
    have KF := hid_of (KE.out.trans K6)
    clear K6 WC w0 w1 y0 y1 wok ANS NO
    go_wp2
    go_ret2
    exact ⟨rfl, KF.out⟩
  have KF := hid_of (KE.out.trans K6)
  have JU6 := hid_of (JU5.out.kept K6)
  have WOK := hid_of wok
  have W0H := hid_of (K6.cell w0)
  have W1H := hid_of (K6.cell w1)
  have Y0H := hid_of (K6.cell y0)
  have Y1H := hid_of (K6.cell y1)
  clear K6 WC wok KE JU5 w0 w1 y0 y1
  go_wp2_with fail
  go_loopw [12, 13, 14] (fun i _ _ w2 => ∃ (k : Nat), k ≤ nd ∧ i = .int .i64 k ∧ Kept w6 w2 ∧ (∀ i, i < k → RowOk es N n (rowAt ds i) (zAt un i)) ∧ ∀ j, j < k → ∀ i, i < j → Within (pairOf Y ss ns i j) (2 * zAt (rowAt ds i) (zAt un j).toNat)) (fun i _ _ _ => nd - (intOf i).toNat)
  case atStart => exact ⟨0, by omega, rfl, Kept.refl _, (fun i hi => by omega), fun i hi => by omega⟩
  case round =>
    obtain ⟨k, hk, rfl, K, hrw, hpp⟩ := hrel
    have HRW := hid_of hrw
    have HPP := hid_of hpp
    have KH := hid_of K
    have w0 := K.cell W0H.out
    have w1 := K.cell W1H.out
    have y0 := K.cell Y0H.out
    have y1 := K.cell Y1H.out
    clear hrw hpp
    by_cases hgo : (k : Int) < (nd : Int)
    · obtain ⟨b, off, hdO, hc⟩ := (HD.out.kept (KF.out.trans K)).cell (by omega)
      obtain ⟨ro, rl, rc, x1, JR⟩ := hc k (by omega)
      obtain ⟨b2, off2, huo, hc2⟩ := (JU6.out.kept K).at (by omega)
      have x2 := hc2 k (by omega)
      obtain ⟨u1, u2⟩ := URNG.out k (by omega)
      obtain ⟨u, hu⟩ : ∃ u : Nat, zAt un k = (u : Int) := ⟨(zAt un k).toNat, by omega⟩
      have huN : u < N := by omega
      rw [hu] at x2
      have HU := hid_of hu
      have X2 := hid_of x2
      have JRH := hid_of JR
      have NC := hid_of (fun w' (K' : Kept wr w') => nearR_calls N ao n cap es ro rl rc (rowAt ds k) u huN w' (HE.out.kept (KF.out.trans (K.trans K'))) (JR.kept K') RGH.out)
      subst hdO
      subst huo
      clear hc hc2 u1 u2 hu K JR
      by_cases hrk : RowOk es N n (rowAt ds k) (u : Int)
      rotate_left
      · have NC2 := hid_of (fun w' (K' : Kept wr w') => (NC.out w' K').mono (fun r w'' hp => (show Kept w' w'' ∧ r = .returned (.bool false) from ⟨hp.1, hp.2.elim (fun t => absurd t.1 hrk) (fun t => t.2)⟩)))
        obtain ⟨rfl, rfl⟩ := NO.out (fun t => hrk (by have := t.2.2.1.2 k (by omega); rwa [UNH.out, HU.out] at this))
        clear hrk NC ANS NO
        go_wp2_with fail
        refine Ord.region [(0, 1), (1, 0), (2, 0), (3, 0), (4, 1), (5, 0), (6, 0), (7, 0), (8, 1), (9, 2), (10, 0)] (fun w' => Kept wr w') (by kernel_rfl) (by kernel_rfl) (by kernel_rfl) (by kernel_rfl) (fun _ _ d _ _ h => by cases d <;> exact h) ((Kept.refl _).drewN _) ?_
        repeat
          refine Ord.step rfl (fun Ko hK => ?_)
          simp only [Ord.body]
          go_simp
          first
            | (refine hK _ _ ?_; clear hK Ko)
            | (refine ⟨_, fun w' hS => (by have c0 := hS.cell w0; have c1 := hS.cell w1; have c2 := hS.cell x1; have c3 := hS.cell x2; simp only [c0, c1, c2, c3, Result.andThen]; rfl), hK _ _ ?_⟩; clear hK Ko)
            | (go_at_call 87; refine (NC2.out _ ((Kept.refl _).drewN _)).mono ?_; clear NC2; rintro e w7 ⟨K7, rfl⟩; refine ⟨((Kept.refl _).drewN _).trans K7, hK _ _ ?_⟩; clear hK Ko)
        refine Ord.done ?_
        have KN := hid_of (KF.out.trans (KH.out.trans (((Kept.refl _).drewN 1).trans K7)))
        clear K7 w0 w1 x1 x2 y0 y1
        go_wp2
        go_ret2
        exact ⟨rfl, KN.out⟩
      have NC2 := hid_of (fun w' (K' : Kept wr w') => (NC.out w' K').mono (fun r w'' hp => (show Kept w' w'' ∧ r = .returned (.bool true) from ⟨hp.1, hp.2.elim (fun t => t.2) (fun t => absurd hrk t.1)⟩)))
      have HRW2 : Hid (∀ i, i < k + 1 → RowOk es N n (rowAt ds i) (zAt un i)) := fun i hi => by
        by_cases e : i = k
        · subst e; rw [HU.out]; exact hrk
        · exact HRW.out i (by omega)
      have MISS : Hid (∀ i, i < k → ¬ Within (pairOf Y ss ns i k) (2 * zAt (rowAt ds i) u) → ¬ DblOk es N n m lm ds nd Y my ss ns) := fun i hi hb t => hb (by
        have := t.2.2.2.2.1 k (by rw [UNH.out, ← hnu.out]; omega) i hi
        rw [UNH.out, HU.out, Int.toNat_natCast] at this
        exact this)
      clear hrk NC HRW
      go_wp2_with fail
      refine Ord.region [(0, 1), (1, 0), (2, 0), (3, 0), (4, 1), (5, 0), (6, 0), (7, 0), (8, 1), (9, 2), (10, 0)] (fun w' => Kept wr w') (by kernel_rfl) (by kernel_rfl) (by kernel_rfl) (by kernel_rfl) (fun _ _ d _ _ h => by cases d <;> exact h) ((Kept.refl _).drewN _) ?_
      repeat
        refine Ord.step rfl (fun Ko hK => ?_)
        simp only [Ord.body]
        go_simp
        first
          | (refine hK _ _ ?_; clear hK Ko)
          | (refine ⟨_, fun w' hS => (by have c0 := hS.cell w0; have c1 := hS.cell w1; have c2 := hS.cell x1; have c3 := hS.cell x2; simp only [c0, c1, c2, c3, Result.andThen]; rfl), hK _ _ ?_⟩; clear hK Ko)
          | (go_at_call 87; refine (NC2.out _ ((Kept.refl _).drewN _)).mono ?_; clear NC2; rintro e w7 ⟨K7, rfl⟩; refine ⟨((Kept.refl _).drewN _).trans K7, hK _ _ ?_⟩; clear hK Ko)
      refine Ord.done ?_
      have K8 := hid_of (KH.out.trans (((Kept.refl _).drewN 1).trans K7))
      have X2K := hid_of ((((Kept.refl _).drewN 1).trans K7).cell X2.out)
      clear K7 w0 w1 x1 x2 y0 y1 X2 JRH KH
      obtain ⟨wo, hwo⟩ : ∃ x, x = w7 := ⟨_, rfl⟩
      subst hwo
      go_wp2_with fail
      go_loopw [13, 14] (fun i _ w2 => ∃ (l : Nat), l ≤ k ∧ i = .int .i64 l ∧ Kept wo w2 ∧ ∀ i, i < l → Within (pairOf Y ss ns i k) (2 * zAt (rowAt ds i) u)) (fun i _ _ => k - (intOf i).toNat)
      case atStart => exact ⟨0, by omega, rfl, Kept.refl _, fun i hi => by omega⟩
      case round =>
        obtain ⟨l, hl, rfl, K, hin⟩ := hrel
        have HIN := hid_of hin
        have K2 := hid_of (K8.out.trans K)
        have KO := hid_of K
        clear hin
        by_cases hgo2 : (l : Int) < (k : Int)
        · obtain ⟨b3, off3, e3, hc3⟩ := (HD.out.kept (KF.out.trans K2.out)).cell (by omega)
          obtain ⟨ro3, rl3, rc3, x1, JR⟩ := hc3 l (by omega)
          obtain ⟨po, p2, p3⟩ := HRW2.out l (by omega)
          have hrl : rl3 = N := by rw [JR.len]; exact po.1
          obtain ⟨b4, off4, hro, hc4⟩ := JR.at (by omega)
          have x3 := hc4 u (by omega)
          obtain ⟨v1, v2⟩ := po.2 u huN
          have hrr := JR.room
          have hrm := JR.most
          unfold maxLen at hrm
          have x2 := K.cell X2K.out
          have y0 := K2.out.cell Y0H.out
          have y1 := K2.out.cell Y1H.out
          have HIT2 : Hid (Within (pairOf Y ss ns l k) (2 * zAt (rowAt ds l) u) → ∀ i, i < l + 1 → Within (pairOf Y ss ns i k) (2 * zAt (rowAt ds i) u)) := fun hb i hi => by
            by_cases e : i = l
            · subst e; exact hb
            · exact HIN.out i (by omega)
          have MISS2 := hid_of (MISS.out l (by omega))
          generalize zAt (rowAt ds l) u = dd at x3 v1 v2 HIT2 MISS2
          have PC := hid_of (fun w' (K' : Kept wr w') => pairR_calls nd (by omega) yo my yc Y so ns sc ss k l (by omega) (by omega) w' (HY.out.kept (KF.out.trans (K2.out.trans K'))) (HS.out.kept (KF.out.trans (K2.out.trans K'))) WOK.out)
          obtain ⟨pr, hpr⟩ : ∃ pr, pairOf Y ss ns l k = pr := ⟨_, rfl⟩
          rw [pairOf_symm, hpr] at PC
          rw [hpr] at HIT2 MISS2
          have WR : IntKind.i64.wrap (dd + dd) = dd + dd := wrap_id (by omega) (by omega)
          have Y0K := hid_of y0
          have Y1K := hid_of y1
          have hln : (l : Int) < (nd : Int) := by omega
          have huN2 : (u : Int) < (N : Int) := by omega
          simp only [Option.some.injEq, Addr.mk.injEq, and_true] at e3
          obtain ⟨rfl, rfl⟩ := e3
          subst hro
          subst hrl
          clear hc3 hc4 JR po p2 p3 K v1 v2 hpr
          go_wp2_with fail
          refine Ord.region [(0, 0), (1, 0), (2, 0), (3, 1), (4, 0), (5, 0), (6, 0), (7, 1), (8, 0), (9, 1), (10, 0)] (fun w' => Kept wr w') (by kernel_rfl) (by kernel_rfl) (by kernel_rfl) (by kernel_rfl) (fun _ _ d _ _ h => by cases d <;> exact h) ((Kept.refl _).drewN _) ?_
          repeat
            refine Ord.step rfl (fun Ko hK => ?_)
            simp only [Ord.body]
            go_simp
            first
              | (refine hK _ _ ?_; clear hK Ko)
              | (refine ⟨_, fun w' hS => (by have c0 := hS.cell x1; have c1 := hS.cell x2; have c2 := hS.cell x3; simp only [c0, c1, c2, Result.andThen]; rfl), hK _ _ ?_⟩; clear hK Ko)
          refine Ord.done ?_
          have KD : Kept wr (wr.drewN 1) := (Kept.refl wr).drewN 1
          have PC2 := hid_of (PC.out _ KD)
          have KDH := hid_of KD
          replace y0 := KD.cell Y0K.out
          replace y1 := KD.cell Y1K.out
          clear PC KD x1 x2 x3
          generalize wr.drewN 1 = w8 at PC2 KDH y0 y1 ⊢
          go_wp2_with fail
          refine PC2.out.mono ?_
          rintro e w9 ⟨rfl, K9⟩
          have K10 := hid_of (KDH.out.trans K9)
          clear K9 PC2 y0 y1
          by_cases hle : pr ≤ 2 * dd
          · have qd : decide (dd + dd < pr) = false := decide_eq_false (by omega)
            have P := hid_of (HIT2.out hle)
            have KN := hid_of (KO.out.trans K10.out)
            clear HIT2 MISS2 hle
            go_wp2_with fail
            go_roundw
            case rel => exact ⟨l + 1, by omega, by go_num, KN.out, P.out⟩
            case measure => simp [intOf]; omega
          · obtain ⟨rfl, rfl⟩ := NO.out (MISS2.out hle)
            have qd : decide (dd + dd < pr) = true := decide_eq_true (by omega)
            have KN := hid_of (KF.out.trans (K2.out.trans K10.out))
            clear HIT2 MISS2 hle ANS NO
            go_wp2
            go_ret2
            exact ⟨rfl, KN.out⟩
        · obtain rfl : l = k := by omega
          have P : Hid (∀ j, j < l + 1 → ∀ i, i < j → Within (pairOf Y ss ns i j) (2 * zAt (rowAt ds i) (zAt un j).toNat)) := fun j hj i hi => by
            by_cases e : j = l
            · subst e; rw [HU.out, Int.toNat_natCast]; exact HIN.out i hi
            · exact HPP.out j (by omega) i hi
          clear K MISS
          go_wp2_with fail
          go_roundw
          case rel => exact ⟨l + 1, by omega, by go_num, K2.out, HRW2.out, P.out⟩
          case measure => simp [intOf]; omega
    · obtain rfl : k = nd := by omega
      have KG := hid_of (KF.out.trans K)
      have RIS := hid_of EV.out.1
      have lmb : lm ≤ 4096 := by have := RIS.out.len_le; omega
      have CO := hid_of (costR_calls (N : Int) N ao n cap es mo lm mc m wr (HE.out.kept KG.out) (HJ.out.kept KG.out) RGH.out (fun i hi => RIS.out.rng hi) lmb)
      have WC := hid_of (fun w' (K' : Kept wr w') => worthR_calls k (by omega) yo my yc Y so ns sc ss w' (HY.out.kept (KG.out.trans K')) (HS.out.kept (KG.out.trans K')) WOK.out)
      have AC := hid_of (fun w' => allR_calls (N : Int) ao n cap hn w')
      have CA := hid_of (fun w' (K' : Kept wr w') qo qc (J : JRow w' qo n qc (allTo n)) => costR_calls (N : Int) N ao n cap es qo n qc (allTo n) w' (HE.out.kept (KG.out.trans K')) J RGH.out (fun j hj => by rw [allTo_at hj]; omega) hn)
      have DDEF : Hid (DblOk es N n m lm ds k Y my ss ns ↔ worthOf Y my ss ns = 2 * csum es m lm) := ⟨fun t => t.2.2.2.2.2, fun t => ⟨RIS.out, EV.out.2, ⟨by rw [UNH.out]; exact hnu.out, fun i hi => by rw [UNH.out]; exact HRW.out i hi⟩, by rw [UNH.out, ← hnu.out]; exact WOK.out, (fun j hj i hi => by rw [UNH.out] at hj ⊢; rw [← hnu.out] at hj; exact HPP.out j hj i hi), t⟩⟩
      obtain ⟨cb1, cb2⟩ := csum_bd RGH.out (fun i hi => RIS.out.rng hi) lm (Nat.le_refl _)
      obtain ⟨ca1, ca2⟩ := csum_bd RGH.out (c := allTo n) (L := n) (fun j hj => by rw [allTo_at hj]; omega) n (Nat.le_refl _)
      obtain ⟨S, hS⟩ : ∃ S, csum es m lm = S := ⟨_, rfl⟩
      obtain ⟨S0, hS0⟩ : ∃ S, csum es (allTo n) n = S := ⟨_, rfl⟩
      obtain ⟨Q, hQ⟩ : ∃ Q, worthOf Y my ss ns = Q := ⟨_, rfl⟩
      rw [hS, hQ] at DDEF
      rw [hS, hS0] at ANS
      rw [hS] at CO cb1 cb2
      rw [hS0] at CA ca1 ca2
      rw [hQ] at WC
      have WRS : IntKind.i64.wrap (S + S) = S + S := wrap_id (by omega) (by omega)
      have WRT : IntKind.i64.wrap (S0 + S) = S0 + S := wrap_id (by omega) (by omega)
      clear K hS hQ hS0 cb1 cb2 ca1 ca2 KH
      go_wp2_with fail
      refine CO.out.mono ?_
      rintro e wf ⟨rfl, K9⟩
      have KN := hid_of K9
      replace w0 := K9.cell w0
      replace w1 := K9.cell w1
      replace y0 := K9.cell y0
      replace y1 := K9.cell y1
      have WC2 := hid_of (WC.out wf K9)
      clear K9 CO WC
      go_wp2_with fail
      refine WC2.out.mono ?_
      rintro e wg ⟨rfl, K10⟩
      have KX := hid_of (KN.out.trans K10)
      replace w0 := K10.cell w0
      replace w1 := K10.cell w1
      clear K10 WC2 y0 y1 KN
      by_cases he : Q = S + S
      · obtain ⟨rfl, rfl⟩ := ANS.out.1 (DDEF.out.2 (by omega))
        have q : (Q != S + S) = false := by simpa using he
        subst he
        have q2 : (S + S != S + S) = false := by simp
        have CA2 := hid_of (fun w' (K' : Kept wg w') qo qc J => CA.out w' (KX.out.trans K') qo qc J)
        clear NO ANS DDEF CA
        go_wp2_with fail
        refine Ord.region [(0, 1), (1, 1), (4, 0), (2, 2), (3, 2), (5, 0), (6, 0), (7, 0)] (fun w' => Kept wg w') (by kernel_rfl) (by kernel_rfl) (by kernel_rfl) (by kernel_rfl) (fun _ _ d _ _ h => by cases d <;> exact h) ((Kept.refl _).drewN _) ?_
        repeat
          refine Ord.step rfl (fun Ko hK => ?_)
          simp only [Ord.body]
          go_simp
          first
            | (refine hK _ _ ?_; clear hK Ko)
            | (refine ⟨_, fun w' hS => (by have c0 := hS.cell w0; have c1 := hS.cell w1; simp only [c0, c1, Result.andThen]; rfl), hK _ _ ?_⟩; clear hK Ko)
            | (go_at_call 39; refine (AC.out _).mono ?_; clear AC; rintro e wm ⟨qo, qc, rfl, JA, KM⟩; refine ⟨((Kept.refl _).drewN _).trans KM, hK _ _ ?_⟩; clear hK Ko)
            | (go_at_call 37; refine (CA2.out _ (((Kept.refl _).drewN _).trans KM) _ _ JA).mono ?_; clear CA2; rintro e wn ⟨rfl, KN⟩; refine ⟨(((Kept.refl _).drewN _).trans KM).trans KN, hK _ _ ?_⟩; clear hK Ko)
            | ((simp only [WRT]))
        refine Ord.done ?_
        have KZ := hid_of (KG.out.trans (KX.out.trans ((((Kept.refl _).drewN 1).trans KM).trans KN)))
        clear KM KN JA w0 w1
        go_wp2
        go_ret2
        exact ⟨rfl, KZ.out⟩
      · obtain ⟨rfl, rfl⟩ := NO.out (fun t => he (by have := DDEF.out.1 t; omega))
        have q : (Q != S + S) = true := by simpa using he
        have KZ := hid_of (KG.out.trans KX.out)
        clear NO ANS he DDEF AC CA
        go_wp2
        go_ret2
        exact ⟨rfl, KZ.out⟩
end Go.Proofs.YtpdppjngbbkbbaaDoor

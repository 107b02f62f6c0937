/- One text of VmK, VmL, VmN. -/
import Derived.Test.YtpdppjngbbkbbaaDoorVmB
namespace Go.Proofs.YtpdppjngbbkbbaaDoor
open Go.RowKit

set_option maxRecDepth 100000 in
set_option linter.unusedSimpArgs false in
set_option maxHeartbeats 4000000 in
theorem weightsR_calls (N : Nat) (yo : Option Addr) (my yc : Nat) (Y : List Int) (so : Option Addr) (ns sc : Nat) (ss : Sets) (w : World) (hY : JRow w yo my yc Y) (hS : DRow w so ns sc ss) :
    Calls Tryd.prog 70 #[.int .i64 (N : Int), .agg #[.slice yo my yc, .slice so ns sc]] w fun r w' => Kept w w' ∧ ((WtsOk Y my ss ns N ∧ r = .returned (.bool true)) ∨ (¬ WtsOk Y my ss ns N ∧ r = .returned (.bool false))) := by
  have hnot : ∀ (x : Bool) (w : World), (Op.unary .not (.bool x)).run Tryd.prog w = .ok (.bool (!x)) w := fun _ _ => rfl
  have hr2 := hS.room
  have hm2 := hS.most
  unfold maxLen at hm2
  have KW : Kept w (w.alloc (Obj.cells #[.slice yo my yc, .slice so ns sc] 50)) := (Kept.refl w).alloc _
  have w0 : (w.alloc (Obj.cells #[.slice yo my yc, .slice so ns sc] 50)).cell? ⟨w.heap.size, 0, none⟩ = some (.slice yo my yc) := by simp [go_sem]
  have w1 : (w.alloc (Obj.cells #[.slice yo my yc, .slice so ns sc] 50)).cell? ⟨w.heap.size, 1, none⟩ = some (.slice so ns sc) := by simp [go_sem]
  have HY := hid_of hY
  have HS := hid_of hS
  clear hY hS
  go_enter Tryd.func70, Tryd.ntmps70
  go_wp2_with fail
  generalize w.alloc (Obj.cells #[.slice yo my yc, .slice so ns sc] 50) = W1 at KW w0 w1 ⊢
  refine (potsR_calls N (.slice none 0 0) yo my yc Y W1 (HY.out.kept KW)).mono ?_
  rintro e wa ⟨K1, ⟨ok, rfl⟩ | ⟨ok, rfl⟩⟩
  rotate_left
  · have HK := hid_of (KW.trans K1)
    clear KW K1 w0 w1
    go_wp2
    go_ret
    exact ⟨HK.out, .inr ⟨fun t => ok t.1, rfl⟩⟩
  replace w1 := K1.cell w1
  have HK := hid_of (KW.trans K1)
  have POK := hid_of ok
  clear K1 KW w0 ok
  by_cases hle : ns ≤ N
  rotate_left
  · have q : decide ((N : Int) < (ns : Int)) = true := decide_eq_true (by omega)
    go_wp2
    go_ret
    exact ⟨HK.out, .inr ⟨fun t => hle t.2.1, rfl⟩⟩
  have q : decide ((N : Int) < (ns : Int)) = false := decide_eq_false (by omega)
  have qN : decide (N < ns) = false := decide_eq_false (by omega)
  have W1H := hid_of w1
  go_wp2_with fail
  go_loopw [5, 6] (fun i _ wr => ∃ (k : Nat), k ≤ ns ∧ i = .int .i64 k ∧ Kept wa wr ∧ ∀ i, i < k → SetOk N (setAt ss i)) (fun i _ _ => ns - (intOf i).toNat)
  case atStart => exact ⟨0, by omega, rfl, Kept.refl _, fun i hi => by omega⟩
  case round =>
    obtain ⟨k, hk, rfl, K, hno⟩ := hrel
    have HNO := hid_of hno
    have KH := hid_of K
    have w1 := K.cell W1H.out
    clear hno
    by_cases hgo : (k : Int) < (ns : Int)
    · obtain ⟨b, off, rfl, hc⟩ := (HS.out.kept (HK.out.trans K)).cell (by omega)
      obtain ⟨no, nl, nc, c1, J, c2⟩ := hc k (by omega)
      have HIT : Hid (SetOk N (setAt ss k) → ∀ i, i < k + 1 → SetOk N (setAt ss i)) := fun hb i hi => by
        by_cases e : i = k
        · subst e; exact hb
        · exact HNO.out i (by omega)
      have MISS : Hid (¬ SetOk N (setAt ss k) → ¬ WtsOk Y my ss ns N) := fun hb t => hb (t.2.2 k (by omega))
      generalize setAt ss k = s at J c2 HIT MISS
      obtain ⟨nds, z⟩ := s
      simp only at J c2
      have HLN := hid_of J.len
      have hnr := J.room
      have hnm := J.most
      unfold maxLen at hnm
      have KB : Kept wr (wr.alloc (Obj.cells #[.slice no nl nc, .int .i64 z] 111)) := (Kept.refl wr).alloc _
      obtain ⟨eb, heb⟩ : ∃ eb, wr.heap.size = eb := ⟨_, rfl⟩
      have a0 : (wr.alloc (Obj.cells #[.slice no nl nc, .int .i64 z] 111)).cell? ⟨eb, 0, none⟩ = some (.slice no nl nc) := by simp [go_sem, ← heb]
      have a1 : (wr.alloc (Obj.cells #[.slice no nl nc, .int .i64 z] 111)).cell? ⟨eb, 1, none⟩ = some (.int .i64 z) := by simp [go_sem, ← heb]
      have J3 := hid_of (J.kept KB)
      have K3 := hid_of (KH.out.trans KB)
      clear hc J K
      go_upto_region 7 with fail
      generalize wr.alloc (Obj.cells #[.slice no nl nc, .int .i64 z] 111) = W3 at a0 a1 J3 K3 ⊢
      clear c1 c2 KB KH heb w1
      have MR := hid_of (risingR_calls no nl nc nds (N : Int) W3 J3.out)
      have hrm : ((nl : Int)).tmod 2 = ((nl % 2 : Nat) : Int) := by rw [Int.tmod_eq_emod_of_nonneg (by omega)]; omega
      obtain ⟨r, hr⟩ : ∃ r, nl % 2 = r := ⟨_, rfl⟩
      rw [hr] at hrm
      by_cases h3 : 3 ≤ nl
      rotate_left
      · have P := hid_of (MISS.out (fun t => h3 (by rw [HLN.out]; exact t.2.1.1)))
        have q3 : decide ((nl : Int) < 3) = true := decide_eq_true (by omega)
        have KF := hid_of (HK.out.trans K3.out)
        clear HIT MISS MR
        go_wp2
        go_ret
        exact ⟨KF.out, .inr ⟨P.out, rfl⟩⟩
      have q3 : decide ((nl : Int) < 3) = false := decide_eq_false (by omega)
      by_cases h1 : r = 0
      · have P := hid_of (MISS.out (fun t => by have h2 : nds.length % 2 = 1 := t.2.1.2; rw [← HLN.out] at h2; omega))
        have q4 : ((r : Int) == 0) = true := by rw [beq_iff_eq]; omega
        have KF := hid_of (HK.out.trans K3.out)
        clear HIT MISS MR
        go_wp2
        go_ret
        exact ⟨KF.out, .inr ⟨P.out, rfl⟩⟩
      have q4 : ((r : Int) == 0) = false := by rw [beq_eq_false_iff_ne]; omega
      have HR1 : Hid (nl % 2 = 1) := by show nl % 2 = 1; omega
      go_wp2_with fail
      refine MR.out.mono ?_
      rintro e w4 ⟨K4, ⟨ris, rfl⟩ | ⟨ris, rfl⟩⟩
      rotate_left
      · have KF := hid_of (HK.out.trans (K3.out.trans K4))
        have P := hid_of (MISS.out (fun t => ris (by rw [HLN.out]; exact t.1)))
        clear K4 MR a0 a1 HIT MISS
        go_wp2
        go_ret
        exact ⟨KF.out, .inr ⟨P.out, rfl⟩⟩
      replace a0 := K4.cell a0
      replace a1 := K4.cell a1
      have HK4 := hid_of (K3.out.trans K4)
      have RIS := hid_of ris
      clear K4 MR K3 J3 ris
      by_cases hz : 0 ≤ z
      rotate_left
      · have P := hid_of (MISS.out (fun t => hz t.2.2.1))
        have q5 : decide (z < 0) = true := decide_eq_true (by omega)
        have KF := hid_of (HK.out.trans HK4.out)
        clear HIT MISS
        go_wp2
        go_ret
        exact ⟨KF.out, .inr ⟨P.out, rfl⟩⟩
      have q5 : decide (z < 0) = false := decide_eq_false (by omega)
      by_cases hz2 : z ≤ 4398046511104
      rotate_left
      · have P := hid_of (MISS.out (fun t => hz2 t.2.2.2))
        have q6 : decide (4398046511104 < z) = true := decide_eq_true (by omega)
        have KF := hid_of (HK.out.trans HK4.out)
        clear HIT MISS
        go_wp2
        go_ret
        exact ⟨KF.out, .inr ⟨P.out, rfl⟩⟩
      have q6 : decide (4398046511104 < z) = false := decide_eq_false (by omega)
      have P := hid_of (HIT.out ⟨by rw [← HLN.out]; exact RIS.out, ⟨by rw [← HLN.out]; exact h3, by rw [← HLN.out]; exact HR1.out⟩, hz, hz2⟩)
      clear HIT MISS
      go_wp2_with fail
      go_roundw
      case rel => exact ⟨k + 1, by omega, by go_num, HK4.out, P.out⟩
      case measure => simp [intOf]; omega
    · obtain rfl : k = ns := by omega
      have KF := hid_of (HK.out.trans K)
      clear K KH
      go_wp2
      go_ret
      exact ⟨KF.out, .inl ⟨⟨POK.out, hle, HNO.out⟩, rfl⟩⟩

theorem pairOf_succ (Y : List Int) (ss : Sets) (k u v : Nat) : pairOf Y ss (k + 1) u v = if inTo (setAt ss k).1 (setAt ss k).1.length u && inTo (setAt ss k).1 (setAt ss k).1.length v then pairOf Y ss k u v - (setAt ss k).2 else pairOf Y ss k u v := by
  unfold pairOf
  rw [sm_succ]
  split <;> omega
theorem pairOf_bd {Y : List Int} {my ns N : Nat} {ss : Sets} (h : WtsOk Y my ss ns N) {u v : Nat} (hu : u < N) (hv : v < N) : ∀ k, k ≤ ns → -8796093022208 - 4398046511104 * (k : Int) ≤ pairOf Y ss k u v ∧ pairOf Y ss k u v ≤ 8796093022208 := by
  intro k
  induction k with
  | zero =>
    intro _
    have a := h.1.2 u hu
    have b := h.1.2 v hv
    simp only [pairOf, sm]
    omega
  | succ k ih =>
    intro hk
    have i := ih (by omega)
    have z := (h.2.2 k (by omega)).2.2
    rw [pairOf_succ]
    split <;> omega

set_option maxRecDepth 100000 in
set_option linter.unusedSimpArgs false in
set_option maxHeartbeats 4000000 in
theorem pairR_calls (N : Nat) (hN : N ≤ 1024) (yo : Option Addr) (my yc : Nat) (Y : List Int) (so : Option Addr) (ns sc : Nat) (ss : Sets) (u v : Nat) (hu : u < N) (hv : v < N) (w : World) (hY : JRow w yo my yc Y) (hS : DRow w so ns sc ss) (hW : WtsOk Y my ss ns N) :
    Calls Tryd.prog 71 #[.agg #[.slice yo my yc, .slice so ns sc], .int .i64 (u : Int), .int .i64 (v : Int)] w fun r w' => r = .returned (.int .i64 (pairOf Y ss ns u v)) ∧ Kept w w' := by
  have hns : ns ≤ 1024 := by have := hW.2.1; omega
  have hr2 := hS.room
  have hm2 := hS.most
  have hr3 := hY.room
  have hm3 := hY.most
  unfold maxLen at hm2 hm3
  obtain rfl : my = N := hW.1.1
  obtain ⟨b0, off0, rfl, hc0⟩ := hY.at (by omega)
  have KW : Kept w (w.alloc (Obj.cells #[.slice (some ⟨b0, off0, none⟩) my yc, .slice so ns sc] 50)) := (Kept.refl w).alloc _
  have w0 : (w.alloc (Obj.cells #[.slice (some ⟨b0, off0, none⟩) my yc, .slice so ns sc] 50)).cell? ⟨w.heap.size, 0, none⟩ = some (.slice (some ⟨b0, off0, none⟩) my yc) := by simp [go_sem]
  have w1 : (w.alloc (Obj.cells #[.slice (some ⟨b0, off0, none⟩) my yc, .slice so ns sc] 50)).cell? ⟨w.heap.size, 1, none⟩ = some (.slice so ns sc) := by simp [go_sem]
  have cu := KW.cell (hc0 u (by omega))
  have cv := KW.cell (hc0 v (by omega))
  obtain ⟨u1, u2⟩ := hW.1.2 u hu
  obtain ⟨v1, v2⟩ := hW.1.2 v hv
  have P0 : Hid (zAt Y u + zAt Y v = pairOf Y ss 0 u v) := by show _ = _; simp [pairOf, sm]
  have HS := hid_of hS
  have PBD := hid_of (pairOf_bd hW hu hv)
  have HW := hid_of hW
  clear hY hS hc0 hW
  generalize zAt Y u = x at cu u1 u2 P0
  generalize zAt Y v = y at cv v1 v2 P0
  have WR : IntKind.i64.wrap (x + y) = x + y := wrap_id (by omega) (by omega)
  go_enter Tryd.func71, Tryd.ntmps71
  go_upto_region 1 with fail
  generalize w.alloc (Obj.cells #[.slice (some ⟨b0, off0, none⟩) my yc, .slice so ns sc] 50) = W1 at KW w0 w1 cu cv ⊢
  have W1H := hid_of w1
  have KWH := hid_of KW
  clear KW
  refine Ord.region [(0, 0), (1, 1), (2, 0), (3, 0), (4, 1), (5, 0), (6, 1), (7, 0), (8, 0), (9, 1), (10, 0), (11, 0)] (fun w' => Kept W1 w') (by kernel_rfl) (by kernel_rfl) (by kernel_rfl) (by kernel_rfl) (fun _ _ d _ _ h => by cases d <;> exact h) ((Kept.refl _).drewN _) ?_
  repeat
    refine Ord.step rfl (fun Ko hK => ?_)
    simp only [Ord.body]
    go_simp
    first
      | (refine hK _ _ ?_; clear hK Ko)
      | (refine ⟨_, fun w' hS => (by have c0 := hS.cell w0; have c1 := hS.cell cu; have c2 := hS.cell cv; simp only [c0, c1, c2, Result.andThen]; rfl), hK _ _ ?_⟩; clear hK Ko)
  refine Ord.done ?_
  clear u1 u2 v1 v2 cu cv w0 w1
  have KD : Hid (Kept W1 (W1.drewN 1)) := (Kept.refl W1).drewN 1
  have w1 := KD.out.cell W1H.out
  rw [P0.out]
  go_wp2_with fail
  go_loopw [7, 8] (fun s i wr => ∃ (k : Nat), k ≤ ns ∧ i = .int .i64 k ∧ s = .int .i64 (pairOf Y ss k u v) ∧ Kept W1 wr) (fun _ i _ => ns - (intOf i).toNat)
  case atStart => exact ⟨0, by omega, rfl, rfl, KD.out⟩
  case round =>
    obtain ⟨k, hk, rfl, rfl, K⟩ := hrel
    have KH := hid_of K
    have w1 := K.cell W1H.out
    clear KD
    by_cases hgo : (k : Int) < (ns : Int)
    · obtain ⟨b, off, rfl, hc⟩ := (HS.out.kept (KWH.out.trans K)).cell (by omega)
      obtain ⟨no, nl, nc, c1, J, c2⟩ := hc k (by omega)
      obtain ⟨p1, p2⟩ := PBD.out k hk
      obtain ⟨z1, z2⟩ := (HW.out.2.2 k (by omega)).2.2
      have SU := hid_of (pairOf_succ Y ss k u v)
      generalize pairOf Y ss k u v = s0 at SU p1 p2 ⊢
      generalize setAt ss k = s at J c2 z1 z2 SU
      obtain ⟨nds, z⟩ := s
      simp only at J c2 z1 z2 SU
      rw [← J.len] at SU
      obtain ⟨bu, hbu⟩ : ∃ x, inTo nds nl u = x := ⟨_, rfl⟩
      obtain ⟨bv, hbv⟩ : ∃ x, inTo nds nl v = x := ⟨_, rfl⟩
      rw [hbu, hbv] at SU
      have CU := hid_of (hasR_calls no nl nc nds u bu (hid_of hbu) wr J)
      have CV := hid_of (fun w' (K' : Kept wr w') => hasR_calls no nl nc nds v bv (hid_of hbv) w' (J.kept K'))
      have WR3 : IntKind.i64.wrap (s0 - z) = s0 - z := wrap_id (by omega) (by omega)
      clear hc J K hbu hbv p1 p2 z1 z2
      go_wp2_with fail
      refine CU.out.mono ?_
      rintro e w3 ⟨rfl, K3⟩
      replace w1 := K3.cell w1
      replace c1 := K3.cell c1
      replace c2 := K3.cell c2
      have K3H := hid_of K3
      clear CU K3
      cases bu with
      | false =>
        have KN := hid_of (KH.out.trans K3H.out)
        have E : Hid (pairOf Y ss (k + 1) u v = s0) := by show _ = _; rw [SU.out]; simp
        clear SU CV K3H w1 c1 c2
        go_wp2_with fail
        go_roundw
        case rel => exact ⟨k + 1, by omega, by go_num, by rw [E.out], KN.out⟩
        case measure => simp [intOf]; omega
      | true =>
        go_wp2_with fail
        refine (CV.out w3 K3H.out).mono ?_
        rintro e w4 ⟨rfl, K4⟩
        replace w1 := K4.cell w1
        replace c2 := K4.cell c2
        have KN := hid_of (KH.out.trans (K3H.out.trans K4))
        clear CV K3H K4 c1
        cases bv with
        | false =>
          have E : Hid (pairOf Y ss (k + 1) u v = s0) := by show _ = _; rw [SU.out]; simp
          clear SU w1 c2
          go_wp2_with fail
          go_roundw
          case rel => exact ⟨k + 1, by omega, by go_num, by rw [E.out], KN.out⟩
          case measure => simp [intOf]; omega
        | true =>
          have E : Hid (pairOf Y ss (k + 1) u v = s0 - z) := by show _ = _; rw [SU.out]; simp
          clear SU
          go_wp2_with fail
          go_roundw
          case rel => exact ⟨k + 1, by omega, by go_num, by rw [E.out], KN.out⟩
          case measure => simp [intOf]; omega
    · obtain rfl : k = ns := by omega
      have KF := hid_of (KWH.out.trans K)
      clear K KH
      go_wp2
      go_ret
      exact ⟨rfl, KF.out⟩

set_option maxRecDepth 100000 in
set_option linter.unusedSimpArgs false in
set_option maxHeartbeats 4000000 in
theorem worthR_calls (N : Nat) (hN : N ≤ 1024) (yo : Option Addr) (my yc : Nat) (Y : List Int) (so : Option Addr) (ns sc : Nat) (ss : Sets) (w : World) (hY : JRow w yo my yc Y) (hS : DRow w so ns sc ss) (hW : WtsOk Y my ss ns N) :
    Calls Tryd.prog 72 #[.agg #[.slice yo my yc, .slice so ns sc]] w fun r w' => r = .returned (.int .i64 (worthOf Y my ss ns)) ∧ Kept w w' := by
  have hns : ns ≤ 1024 := by have := hW.2.1; omega
  have hmy : my ≤ 1024 := by have := hW.1.1; omega
  have hr2 := hS.room
  have hm2 := hS.most
  have hr3 := hY.room
  have hm3 := hY.most
  unfold maxLen at hm2 hm3
  have KW : Kept w (w.alloc (Obj.cells #[.slice yo my yc, .slice so ns sc] 50)) := (Kept.refl w).alloc _
  have w0 : (w.alloc (Obj.cells #[.slice yo my yc, .slice so ns sc] 50)).cell? ⟨w.heap.size, 0, none⟩ = some (.slice yo my yc) := by simp [go_sem]
  have w1 : (w.alloc (Obj.cells #[.slice yo my yc, .slice so ns sc] 50)).cell? ⟨w.heap.size, 1, none⟩ = some (.slice so ns sc) := by simp [go_sem]
  have HY := hid_of hY
  have HS := hid_of hS
  have HW := hid_of hW
  clear hY hS hW
  go_enter Tryd.func72, Tryd.ntmps72
  go_wp2_with fail
  generalize w.alloc (Obj.cells #[.slice yo my yc, .slice so ns sc] 50) = W1 at KW w0 w1 ⊢
  have KWH := hid_of KW
  have W1H := hid_of w1
  clear KW w1
  go_loopw [3, 4] (fun s i wr => ∃ (k : Nat), k ≤ my ∧ i = .int .i64 k ∧ s = .int .i64 (sm (zAt Y) k) ∧ W1 = wr) (fun _ i _ => my - (intOf i).toNat)
  case atStart => exact ⟨0, by omega, rfl, rfl, rfl⟩
  case round =>
    obtain ⟨k, hk, rfl, rfl, rfl⟩ := hrel
    by_cases hgo : (k : Int) < (my : Int)
    · obtain ⟨b, off, rfl, hc⟩ := (HY.out.kept KWH.out).at (by omega)
      have d := hc k (by omega)
      have hp := HW.out.1
      obtain ⟨p1, p2⟩ := hp.2 k (by have := hp.1; omega)
      obtain ⟨s1, s2⟩ := sm_bd (f := zAt Y) (k := k) (B := 4398046511104) (fun i hi => hp.2 i (by have := hp.1; omega))
      have SU := hid_of (sm_succ (zAt Y) k)
      generalize sm (zAt Y) k = s at SU s1 s2 ⊢
      generalize zAt Y k = y at d p1 p2 SU
      have WR : IntKind.i64.wrap (s + y) = s + y := wrap_id (by omega) (by omega)
      clear hc hp s1 s2 p1 p2
      go_wp2_with fail
      go_roundw
      case rel => exact ⟨k + 1, by omega, by go_num, by rw [SU.out], by trivial⟩
      case measure => simp [intOf]; omega
    · obtain rfl : k = my := by omega
      have W0 : Hid (sm (zAt Y) k = worthOf Y k ss 0) := by show _ = _; unfold worthOf; simp [sm]
      rw [W0.out]
      have w1 := W1H.out
      go_wp2_with fail
      go_loopw [3, 5, 6] (fun s i _ wr => ∃ (j : Nat), j ≤ ns ∧ i = .int .i64 j ∧ s = .int .i64 (worthOf Y k ss j) ∧ W1 = wr) (fun _ i _ _ => ns - (intOf i).toNat)
      case atStart => exact ⟨0, by omega, rfl, rfl, rfl⟩
      case round =>
        obtain ⟨j, hj, rfl, rfl, rfl⟩ := hrel
        by_cases hgo2 : (j : Int) < (ns : Int)
        · obtain ⟨b, off, rfl, hc⟩ := (HS.out.kept KWH.out).cell (by omega)
          obtain ⟨no, nl, nc, c1, J, c2⟩ := hc j (by omega)
          have SU := hid_of (worthOf_succ Y k ss j)
          obtain ⟨p1, p2⟩ := worthOf_bd hN HW.out j hj
          obtain ⟨⟨o3, o1⟩, z1, z2⟩ := (HW.out.2.2 j (by omega)).2
          have LL := (HW.out.2.2 j (by omega)).1.len_le
          unfold setHalf at SU
          generalize worthOf Y k ss j = s0 at SU p1 p2 ⊢
          generalize setAt ss j = sx at J c2 SU o3 o1 z1 z2 LL
          obtain ⟨nds, z⟩ := sx
          simp only at J c2 SU o3 o1 z1 z2 LL
          rw [← J.len] at SU o3 o1 LL
          have hnr := J.room
          have hnm := J.most
          unfold maxLen at hnm
          obtain ⟨hh, hhe⟩ : ∃ hh : Nat, nl / 2 = hh := ⟨_, rfl⟩
          rw [hhe] at SU
          have hnl : nl = 2 * hh + 1 := by omega
          have ZB := hid_of (fun c (hc : c ≤ hh) => (⟨Int.mul_nonneg z1 (by omega), by have := Int.mul_le_mul z2 (show (c : Int) ≤ 512 by omega) (by omega) (by omega); omega⟩ : 0 ≤ z * (c : Int) ∧ z * (c : Int) ≤ 2251799813685248))
          clear hc J hhe o3 o1
          go_wp2_with fail
          go_loopw [3, 6] (fun s i w2 => ∃ (c : Nat), c ≤ hh ∧ i = .int .i64 ((2 * c + 2 : Nat) : Int) ∧ s = .int .i64 (s0 - z * (c : Int)) ∧ W1 = w2) (fun _ i _ => 2 * hh + 2 - (intOf i).toNat)
          case atStart => exact ⟨0, by omega, rfl, by simp, rfl⟩
          case round =>
            obtain ⟨c, hcl, rfl, rfl, rfl⟩ := hrel
            obtain ⟨t1, t2⟩ := ZB.out c hcl
            by_cases hgo3 : c < hh
            · obtain ⟨t3, t4⟩ := ZB.out (c + 1) (by omega)
              have EZ : Hid (s0 - z * (c : Int) - z = s0 - z * ((c + 1 : Nat) : Int)) := by
                show _ = _
                rw [Int.natCast_add, Int.mul_add]
                simp
                omega
              have EZ2 := EZ.out
              generalize z * (c : Int) = zc at EZ EZ2 t1 t2 ⊢
              obtain ⟨zd, hzd⟩ : ∃ zd, z * ((c + 1 : Nat) : Int) = zd := ⟨_, rfl⟩
              rw [hzd] at EZ2 t3 t4
              have HZD := hid_of hzd
              clear hzd
              have WR : IntKind.i64.wrap (s0 - zc - z) = s0 - zd := by rw [wrap_id (by omega) (by omega)]; exact EZ2
              have qk : (((2 * c + 2 : Nat) : Int)) < (nl : Int) := by omega
              obtain ⟨kk, hkk⟩ : ∃ kk, 2 * c + 2 = kk := ⟨_, rfl⟩
              rw [hkk] at qk ⊢
              have HKK := hid_of hkk
              have WRK : IntKind.i64.wrap ((kk : Int) + 2) = (kk : Int) + 2 := wrap_id (by omega) (by omega)
              clear EZ EZ2 t1 t2 t3 t4 hkk
              go_wp2_with fail
              go_roundw
              case rel => exact ⟨c + 1, by omega, by have := HKK.out; go_num, by rw [HZD.out], by trivial⟩
              case measure => have := HKK.out; simp [intOf]; omega
            · obtain rfl : c = hh := by omega
              have qk : ¬ (((2 * c + 2 : Nat) : Int)) < (nl : Int) := by omega
              obtain ⟨kk, hkk⟩ : ∃ kk, 2 * c + 2 = kk := ⟨_, rfl⟩
              rw [hkk] at qk ⊢
              go_wp2_with fail
              go_roundw
              case rel => exact ⟨j + 1, by omega, by go_num, by rw [SU.out], by trivial⟩
              case measure => simp [intOf]; omega
        · obtain rfl : j = ns := by omega
          go_wp2
          go_ret
          exact ⟨rfl, KWH.out⟩
end Go.Proofs.YtpdppjngbbkbbaaDoor
namespace Go.Proofs.YtpdppjngbbkbbaaDoor
open Go.RowKit

theorem infoBR0 : (Tryd.prog.info? 111).map (fun i => (i.zero, i.size, i.bytes)) = some (some (.agg #[.slice none 0 0, .int .i64 0]), 2, 32) := by kernel_rfl
theorem infoBR : ∃ i : TypeInfo, Tryd.prog.info? 111 = some i ∧ i.zero = some (.agg #[.slice none 0 0, .int .i64 0]) ∧ i.size = 2 ∧ i.bytes = 32 := by
  have h := infoBR0
  cases e : Tryd.prog.info? 111 with
  | none => rw [e] at h; cases h
  | some i =>
    rw [e] at h
    simp only [Option.map_some, Option.some.injEq, Prod.mk.injEq] at h
    exact ⟨i, rfl, h.1, h.2.1, h.2.2⟩

/-- The head of a set, where it lies. -/
def hdOf (w : World) (so : Option Addr) (i : Nat) : Value :=
  match so with
  | some a => (w.cell? ⟨a.block, a.off + i * 2, none⟩).getD (.slice none 0 0)
  | none => .slice none 0 0
/-- The cells of the first k sets. -/
def dvals (hd : Nat → Value) (ss : Sets) : Nat → List Value
  | 0 => []
  | k + 1 => dvals hd ss k ++ [hd k, .int .i64 (setAt ss k).2]
theorem dvals_succ (hd : Nat → Value) (ss : Sets) (k : Nat) : dvals hd ss (k + 1) = dvals hd ss k ++ [hd k, .int .i64 (setAt ss k).2] := rfl
theorem dvals_len (hd : Nat → Value) (ss : Sets) (k : Nat) : (dvals hd ss k).length = k * 2 := by
  induction k with
  | zero => rfl
  | succ k ih => rw [dvals_succ, List.length_append, ih]; simp; omega
theorem dvals_get (hd : Nat → Value) (ss : Sets) {i : Nat} : ∀ k, i < k → (dvals hd ss k)[i * 2]? = some (hd i) ∧ (dvals hd ss k)[i * 2 + 1]? = some (.int .i64 (setAt ss i).2) := by
  intro k
  induction k with
  | zero => intro h; omega
  | succ k ih =>
    intro h
    have hl := dvals_len hd ss k
    rw [dvals_succ]
    by_cases e : i = k
    · subst e
      rw [List.getElem?_append_right (by omega), List.getElem?_append_right (by omega), hl]
      simp
    · rw [List.getElem?_append_left (by omega), List.getElem?_append_left (by omega)]
      exact ih (by omega)
theorem owns_slice2 {w : World} {base e : Nat} {v : Value} {n : Nat} {xs : List Value} (h : w.ownsRow base e 2 v n xs) : ∃ ao cap, v = .slice ao n cap := by
  rcases h.2 with ⟨rfl, rfl⟩ | ⟨g, cap, cur, rfl, _⟩
  · exact ⟨none, 0, rfl⟩
  · exact ⟨_, cap, rfl⟩
theorem cell_new2 (w : World) (T : TypeId) (u v : Value) : ∀ j u', ([u, v] : List Value)[j]? = some u' → (w.alloc (Obj.cells #[u, v] T)).cell? ((⟨w.heap.size, 0, none⟩ : Addr).add j) = some u' := by
  intro j u' h
  match j, h with
  | 0, h => simp at h; subst h; simp [go_sem, Addr.add]
  | 1, h => simp at h; subst h; simp [go_sem, Addr.add]
  | j + 2, h => simp at h
/-- The copied row is a row of the same sets. -/
theorem drow_of {w w' : World} {B e : Nat} {so qo : Option Addr} {ns sc qc : Nat} {ss : Sets} (hS : DRow w so ns sc ss) (K : Kept w w') (O : w'.ownsRow B e 2 (.slice qo ns qc) ns (dvals (hdOf w so) ss ns)) : DRow w' qo ns qc ss := by
  refine ⟨hS.len, ?_, ?_, fun hn => ?_⟩
  · rcases O.2 with ⟨h1, h2⟩ | ⟨g, cap, cur, h1, _, _, h4, _⟩
    · omega
    · simp only [Value.slice.injEq] at h1; omega
  · rcases O.2 with ⟨h1, h2⟩ | ⟨g, cap, cur, h1, _, _, _, h5, _⟩
    · simp only [Value.slice.injEq] at h1; unfold maxLen; omega
    · simp only [Value.slice.injEq] at h1; omega
  · rcases O.2 with ⟨h1, h2⟩ | ⟨g, cap, cur, h1, _⟩
    · omega
    · simp only [Value.slice.injEq] at h1
      obtain ⟨rfl, -, -⟩ := h1
      obtain ⟨b, off, rfl, hc⟩ := hS.cell hn
      refine ⟨g, 0, rfl, fun i hi => ?_⟩
      obtain ⟨no, nl, nc, c1, J, c2⟩ := hc i hi
      have hd : hdOf w (some ⟨b, off, none⟩) i = .slice no nl nc := by simp only [hdOf, c1, Option.getD_some]
      obtain ⟨g1, g2⟩ := dvals_get (hdOf w (some ⟨b, off, none⟩)) ss (i := i) ns hi
      have hl := dvals_len (hdOf w (some ⟨b, off, none⟩)) ss ns
      have x1 := O.cellAt (i * 2) (by omega)
      have x2 := O.cellAt (i * 2 + 1) (by omega)
      rw [g1, hd] at x1
      rw [g2] at x2
      rw [Nat.zero_add]
      exact ⟨no, nl, nc, x1, J.kept K, x2⟩

set_option maxRecDepth 100000 in
set_option linter.unusedSimpArgs false in
set_option maxHeartbeats 4000000 in
theorem plain_calls (yo : Option Addr) (my yc : Nat) (so : Option Addr) (ns sc : Nat) (ss : Sets) (w : World) (hS : DRow w so ns sc ss) (hb : ns * 32 ≤ 140737488355328) :
    Calls Tryd.prog 29 #[.agg #[.slice yo my yc, .slice so ns sc]] w fun r w' => ∃ qo qc, r = .returned (.agg #[.slice yo my yc, .slice qo ns qc]) ∧ DRow w' qo ns qc ss ∧ Kept w w' := by
  obtain ⟨i0, hi, hz0, hz1, hz2⟩ := infoBR
  have hr2 := hS.room
  have hm2 := hS.most
  unfold maxLen at hm2
  have KW : Kept w (((w.alloc (Obj.cells #[.slice yo my yc, .slice so ns sc] 45)).alloc (Obj.cells #[.slice none 0 0, .slice none 0 0] 50)).alloc (Obj.cells #[.slice yo my yc, .slice none 0 0] 50)) := (((Kept.refl w).alloc _).alloc _).alloc _
  have hsz : (((w.alloc (Obj.cells #[.slice yo my yc, .slice so ns sc] 45)).alloc (Obj.cells #[.slice none 0 0, .slice none 0 0] 50)).alloc (Obj.cells #[.slice yo my yc, .slice none 0 0] 50)).heap.size = w.heap.size + 3 := by simp
  have w1 : (((w.alloc (Obj.cells #[.slice yo my yc, .slice so ns sc] 45)).alloc (Obj.cells #[.slice none 0 0, .slice none 0 0] 50)).alloc (Obj.cells #[.slice yo my yc, .slice none 0 0] 50)).cell? ⟨w.heap.size, 1, none⟩ = some (.slice so ns sc) := by simp [go_sem]
  have f0 : (((w.alloc (Obj.cells #[.slice yo my yc, .slice so ns sc] 45)).alloc (Obj.cells #[.slice none 0 0, .slice none 0 0] 50)).alloc (Obj.cells #[.slice yo my yc, .slice none 0 0] 50)).cell? ⟨w.heap.size + 1, 0, none⟩ = some (.slice none 0 0) := by simp [go_sem]
  have f1 : (((w.alloc (Obj.cells #[.slice yo my yc, .slice so ns sc] 45)).alloc (Obj.cells #[.slice none 0 0, .slice none 0 0] 50)).alloc (Obj.cells #[.slice yo my yc, .slice none 0 0] 50)).cell? ⟨w.heap.size + 1, 1, none⟩ = some (.slice none 0 0) := by simp [go_sem]
  have f2 : ∀ o, (((w.alloc (Obj.cells #[.slice yo my yc, .slice so ns sc] 45)).alloc (Obj.cells #[.slice none 0 0, .slice none 0 0] 50)).alloc (Obj.cells #[.slice yo my yc, .slice none 0 0] 50)).frozen? ⟨w.heap.size + 1, o, none⟩ = false := fun o => by simp [go_sem]
  have s0 : (((w.alloc (Obj.cells #[.slice yo my yc, .slice so ns sc] 45)).alloc (Obj.cells #[.slice none 0 0, .slice none 0 0] 50)).alloc (Obj.cells #[.slice yo my yc, .slice none 0 0] 50)).cell? ⟨w.heap.size + 2, 0, none⟩ = some (.slice yo my yc) := by simp [go_sem]
  have s1 : (((w.alloc (Obj.cells #[.slice yo my yc, .slice so ns sc] 45)).alloc (Obj.cells #[.slice none 0 0, .slice none 0 0] 50)).alloc (Obj.cells #[.slice yo my yc, .slice none 0 0] 50)).cell? ⟨w.heap.size + 2, 1, none⟩ = some (.slice none 0 0) := by simp [go_sem]
  have s2 : (((w.alloc (Obj.cells #[.slice yo my yc, .slice so ns sc] 45)).alloc (Obj.cells #[.slice none 0 0, .slice none 0 0] 50)).alloc (Obj.cells #[.slice yo my yc, .slice none 0 0] 50)).frozen? ⟨w.heap.size + 2, 1, none⟩ = false := by simp [go_sem]
  have HS := hid_of hS
  clear hS
  go_enter Tryd.func29, Tryd.ntmps29
  go_wp2_with fail
  generalize ((w.alloc (Obj.cells #[.slice yo my yc, .slice so ns sc] 45)).alloc (Obj.cells #[.slice none 0 0, .slice none 0 0] 50)).alloc (Obj.cells #[.slice yo my yc, .slice none 0 0] 50) = W1 at KW hsz w1 f0 f1 f2 s0 s1 s2 ⊢
  have KWH := hid_of KW
  have HSZ := hid_of hsz
  have F0 := hid_of f0
  have F1 := hid_of f1
  have F2 := hid_of f2
  have O0 : Hid (W1.ownsRow W1.heap.size 111 2 (.slice none 0 0) 0 (dvals (hdOf w so) ss 0)) := World.ownsRow_nil _ _ _ _
  clear KW hsz f0 f1 f2
  go_loopw [5, 12] (fun _ i wr => ∃ (k : Nat) (qo : Option Addr) (qc : Nat), k ≤ ns ∧ i = .int .i64 k ∧ wr.cell? ⟨w.heap.size + 2, 0, none⟩ = some (.slice yo my yc) ∧ wr.cell? ⟨w.heap.size + 2, 1, none⟩ = some (.slice qo k qc) ∧ wr.frozen? ⟨w.heap.size + 2, 1, none⟩ = false ∧ wr.ownsRow W1.heap.size 111 2 (.slice qo k qc) k (dvals (hdOf w so) ss k) ∧ Kept w wr ∧ wr.cell? ⟨w.heap.size + 1, 0, none⟩ = some (.slice none 0 0) ∧ wr.cell? ⟨w.heap.size + 1, 1, none⟩ = some (.slice none 0 0) ∧ (∀ o, wr.frozen? ⟨w.heap.size + 1, o, none⟩ = false) ∧ W1.heap.size ≤ wr.heap.size) (fun _ i _ => ns - (intOf i).toNat)
  case atStart => exact ⟨0, none, 0, by omega, rfl, s0, s1, s2, O0.out, KWH.out, F0.out, F1.out, F2.out, Nat.le_refl _⟩
  case round =>
    obtain ⟨k, qo, qc, hk, rfl, s0, s1, s2, OR, K, f0, f1, f2, hB⟩ := hrel
    have KH := hid_of K
    have ORH := hid_of OR
    have F0 := hid_of f0
    have F1 := hid_of f1
    have F2 := hid_of f2
    have hsz := HSZ.out
    clear O0 OR f0 f1 f2
    by_cases hgo : (k : Int) < (ns : Int)
    · obtain ⟨b, off, hso, hc⟩ := HS.out.cell (by omega)
      obtain ⟨no, nl, nc, c1, J, c2⟩ := hc k (by omega)
      have HHD : Hid (dvals (hdOf w so) ss (k + 1) = dvals (hdOf w so) ss k ++ [.slice no nl nc, .int .i64 (setAt ss k).2]) := by
        show _ = _
        rw [dvals_succ, hso]
        simp only [hdOf, c1, Option.getD_some]
      replace c1 := K.cell c1
      replace c2 := K.cell c2
      generalize (setAt ss k).2 = z at c2 HHD
      subst hso
      have lp : w.heap.size + 2 < wr.heap.size := by omega
      have NW := cell_new2 (wr.alloc (Obj.cells #[.slice no nl nc, .int .i64 z] 110)) 111 (.slice no nl nc) (.int .i64 z)
      rw [show (wr.alloc (Obj.cells #[.slice no nl nc, .int .i64 z] 110)).heap.size = wr.heap.size + 1 by simp] at NW
      have HN := hid_of NW
      have HM := hid_of ((World.ownsRow.alloc ORH.out (Obj.cells #[.slice no nl nc, .int .i64 z] 110)).alloc (Obj.cells #[.slice no nl nc, .int .i64 z] 111))
      have KA := hid_of ((((Kept.refl wr).alloc (Obj.cells #[.slice no nl nc, .int .i64 z] 110)).alloc (Obj.cells #[.slice no nl nc, .int .i64 z] 111)))
      have S0 := hid_of s0
      have S1 := hid_of s1
      have S2 := hid_of s2
      clear hc J K NW
      go_wp2_with (at_builtin; refine wpList_append_own_at _ rfl _ _ 48 rfl W1.heap.size 111 i0 _ 2 32 Tryd.underlying48 hi hz0 hz1 hz2 rfl (by decide) _ _ _ rfl HM.out ⟨wr.heap.size + 1, 0, none⟩ 1 1 [.slice no nl nc, .int .i64 z] rfl rfl HN.out (by intro u hu; simp at hu; rcases hu with rfl | rfl <;> rfl) (by unfold maxLen; omega) (by omega) (by simp; omega) ?_)
      intro v' w5 own grow _ ha
      obtain ⟨qo', qc', rfl⟩ := owns_slice2 own
      have far : ∀ q, q < W1.heap.size → some q ≠ (Value.slice qo k qc).ownBlock := fun q hq e => by have := (ORH.out.lt q e.symm).1; omega
      have far' : ∀ q, q < W1.heap.size → some q ≠ (Value.slice qo' (k + 1) qc').ownBlock := fun q hq e => by have := (own.lt q e.symm).1; omega
      have b0 := grow.cell (KA.out.cell S0.out) (far (w.heap.size + 2) (by omega))
      have b1 := grow.cell (KA.out.cell S1.out) (far (w.heap.size + 2) (by omega))
      have b2 : w5.frozen? ⟨w.heap.size + 2, 1, none⟩ = false := (grow.frozen_far ⟨w.heap.size + 2, 1, none⟩ (by simp; omega) (far (w.heap.size + 2) (by omega))).trans ((Below.frozen (p := ⟨w.heap.size + 2, 1, none⟩) KA.out lp).trans S2.out)
      have e0 := grow.cell (KA.out.cell F0.out) (far (w.heap.size + 1) (by omega))
      have e1 := grow.cell (KA.out.cell F1.out) (far (w.heap.size + 1) (by omega))
      have e2 : ∀ o, w5.frozen? ⟨w.heap.size + 1, o, none⟩ = false := fun o => (grow.frozen_far ⟨w.heap.size + 1, o, none⟩ (by simp; omega) (far (w.heap.size + 1) (by omega))).trans ((Below.frozen (p := ⟨w.heap.size + 1, o, none⟩) KA.out (by simp only; omega)).trans (F2.out o))
      have own2 := own.kept (grown_setCell w5 ⟨w.heap.size + 2, 1, none⟩ (.slice qo' (k + 1) qc')) (.inr (Ne.symm (far' (w.heap.size + 2) (by omega))))
      have T0 : Hid ((w5.setCell ⟨w.heap.size + 2, 1, none⟩ (.slice qo' (k + 1) qc')).cell? ⟨w.heap.size + 2, 0, none⟩ = some (.slice yo my yc)) := by
        show _ = _
        rw [World.cell?_setCell_other _ _ _ _ (by simp)]; exact b0
      have T1 := hid_of (World.cell?_setCell_same w5 ⟨w.heap.size + 2, 1, none⟩ (.slice qo' (k + 1) qc') b1)
      have T2 : Hid ((w5.setCell ⟨w.heap.size + 2, 1, none⟩ (.slice qo' (k + 1) qc')).frozen? ⟨w.heap.size + 2, 1, none⟩ = false) := by
        show _ = _
        simpa [go_sem] using b2
      have T3 : Hid ((w5.setCell ⟨w.heap.size + 2, 1, none⟩ (.slice qo' (k + 1) qc')).ownsRow W1.heap.size 111 2 (.slice qo' (k + 1) qc') (k + 1) (dvals (hdOf w (some ⟨b, off, none⟩)) ss (k + 1))) := by
        rw [HHD.out, HSZ.out]; exact own2
      have T4 : Hid (Kept w (w5.setCell ⟨w.heap.size + 2, 1, none⟩ (.slice qo' (k + 1) qc'))) := (Below.grown (KH.out.trans KA.out) grow (KH.out.trans KA.out).size (fun j hj => by have := (ORH.out.lt j hj).1; omega)).setCell (p := ⟨w.heap.size + 2, 1, none⟩) (by simp) _
      have T5 := hid_of (cell_put (i := 1) (u := .slice qo' (k + 1) qc') e0 (by omega : ¬ w.heap.size + 1 = w.heap.size + 2))
      have T6 := hid_of (cell_put (i := 1) (u := .slice qo' (k + 1) qc') e1 (by omega : ¬ w.heap.size + 1 = w.heap.size + 2))
      have T7 : Hid (∀ o, (w5.setCell ⟨w.heap.size + 2, 1, none⟩ (.slice qo' (k + 1) qc')).frozen? ⟨w.heap.size + 1, o, none⟩ = false) := fun o => by simpa [go_sem] using e2 o
      have T8 : Hid (W1.heap.size ≤ (w5.setCell ⟨w.heap.size + 2, 1, none⟩ (.slice qo' (k + 1) qc')).heap.size) := by
        have h1 := grow.size
        have h2 := KA.out.size
        have h3 : (w5.setCell ⟨w.heap.size + 2, 1, none⟩ (.slice qo' (k + 1) qc')).heap.size = w5.heap.size := by simp
        show W1.heap.size ≤ _
        rw [h3]
        omega
      clear own grow ha HN HM KA S0 S1 S2 c1 c2 e0 e1 e2 own2 far far' b0 s0 s1 s2 F0 F1 F2 KH ORH
      go_wp2_with fail
      go_roundw
      case rel => exact ⟨k + 1, qo', qc', by omega, by go_num, T0.out, T1.out, T2.out, T3.out, T4.out, T5.out, T6.out, T7.out, T8.out⟩
      case measure => simp [intOf]; omega
    · obtain rfl : k = ns := by omega
      have f0 := F0.out
      have f1 := F1.out
      have f2 := F2.out 0
      have f3 := F2.out 1
      obtain ⟨t1, t2, t3, t4⟩ := box2w f0 f1 (.slice yo my yc) (.slice qo k qc)
      have hlt : w.heap.size + 1 < W1.heap.size := by omega
      have O2 := ownsRow_setCell_below (ownsRow_setCell_below ORH.out (a := ⟨w.heap.size + 1, 0, none⟩) hlt (.slice yo my yc)) (a := ⟨w.heap.size + 1, 1, none⟩) hlt (.slice qo k qc)
      have KK := (KH.out.setCell (p := ⟨w.heap.size + 1, 0, none⟩) (by simp) (.slice yo my yc)).setCell (p := ⟨w.heap.size + 1, 1, none⟩) (by simp) (.slice qo k qc)
      have DD := hid_of (drow_of HS.out KK O2)
      have KKH := hid_of KK
      clear O2 KK K w1
      go_wp2
      refine bodyPost_ret (v := .agg #[.slice yo my yc, .slice qo k qc]) (by simp [results, Tryd.results29, go_sem, t3, t4]) rfl ⟨qo, qc, rfl, DD.out, KKH.out⟩
end Go.Proofs.YtpdppjngbbkbbaaDoor
namespace Go.Proofs.YtpdppjngbbkbbaaDoor
open Go.RowKit

theorem chpAns_mat {nodes : Int} {es : List Ed} {n : Nat} {m : List Int} {lm : Nat} {Y : List Int} {my : Nat} {ss : Sets} {ns : Nat} (h : matAns nodes es n m lm ≠ 0) : chpAns nodes es n m lm Y my ss ns = (0, matAns nodes es n m lm) := by
  unfold matAns at h ⊢
  unfold chpAns
  split
  · rfl
  · rename_i t
    rw [if_neg t] at h
    split at h
    · omega
    · rename_i u
      rw [if_neg (fun v => u v.1), if_neg u]

set_option maxRecDepth 100000 in
set_option linter.unusedSimpArgs false in
set_option maxHeartbeats 4000000 in
theorem cheapestR_calls (nodes : Int) (ao : Option Addr) (n cap : Nat) (es : List Ed) (mo : Option Addr) (lm mc : Nat) (m : List Int) (yo : Option Addr) (my yc : Nat) (Y : List Int) (so : Option Addr) (ns sc : Nat) (ss : Sets) (w : World) (h : ERow w ao n cap es) (hJ : JRow w mo lm mc m) (hY : JRow w yo my yc Y) (hS : DRow w so ns sc ss) (v code : Int) (hans : Hid (chpAns nodes es n m lm Y my ss ns = (v, code))) :
    Calls Tryd.prog 28 #[.agg #[.int .i64 nodes, .slice ao n cap], .slice mo lm mc, .agg #[.slice yo my yc, .slice so ns sc]] w fun e w' => e = .returned (.tuple #[.int .i64 v, .int .i64 code]) ∧ Kept w w' := by
  have hnot : ∀ (x : Bool) (w : World), (Op.unary .not (.bool x)).run Tryd.prog w = .ok (.bool (!x)) w := fun _ _ => rfl
  obtain ⟨z, A3⟩ : ∃ z, matAns nodes es n m lm = z := ⟨_, rfl⟩
  have hr0 := h.room
  have hm0 := h.most
  have hr1 := hJ.room
  have hm1 := hJ.most
  unfold maxLen at hm0 hm1
  have KW : Kept w ((w.alloc (Obj.cells #[.int .i64 nodes, .slice ao n cap] 24)).alloc (Obj.cells #[.slice yo my yc, .slice so ns sc] 50)) := ((Kept.refl w).alloc _).alloc _
  have w0 : ((w.alloc (Obj.cells #[.int .i64 nodes, .slice ao n cap] 24)).alloc (Obj.cells #[.slice yo my yc, .slice so ns sc] 50)).cell? ⟨w.heap.size, 0, none⟩ = some (.int .i64 nodes) := by simp [go_sem]
  have w1 : ((w.alloc (Obj.cells #[.int .i64 nodes, .slice ao n cap] 24)).alloc (Obj.cells #[.slice yo my yc, .slice so ns sc] 50)).cell? ⟨w.heap.size, 1, none⟩ = some (.slice ao n cap) := by simp [go_sem]
  have y0 : ((w.alloc (Obj.cells #[.int .i64 nodes, .slice ao n cap] 24)).alloc (Obj.cells #[.slice yo my yc, .slice so ns sc] 50)).cell? ⟨w.heap.size + 1, 0, none⟩ = some (.slice yo my yc) := by simp [go_sem]
  have y1 : ((w.alloc (Obj.cells #[.int .i64 nodes, .slice ao n cap] 24)).alloc (Obj.cells #[.slice yo my yc, .slice so ns sc] 50)).cell? ⟨w.heap.size + 1, 1, none⟩ = some (.slice so ns sc) := by simp [go_sem]
  have HE := hid_of h
  have HJ := hid_of hJ
  have HY := hid_of hY
  have HS := hid_of hS
  have HA3 := hid_of A3
  clear h hJ hY hS A3
  go_enter Tryd.func28, Tryd.ntmps28
  go_wp2_with fail
  generalize (w.alloc (Obj.cells #[.int .i64 nodes, .slice ao n cap] 24)).alloc (Obj.cells #[.slice yo my yc, .slice so ns sc] 50) = W1 at KW w0 w1 y0 y1 ⊢
  refine (matchingR_calls nodes ao n cap es mo lm mc m W1 (HE.out.kept KW) (HJ.out.kept KW) z HA3).mono ?_
  rintro e wa ⟨rfl, K1⟩
  have K := hid_of (KW.trans K1)
  replace w0 := K1.cell w0
  replace w1 := K1.cell w1
  replace y0 := K1.cell y0
  replace y1 := K1.cell y1
  clear K1 KW
  by_cases hz : z = 0
  rotate_left
  · have e := hans.out
    rw [chpAns_mat (by rw [HA3.out]; exact hz), HA3.out] at e
    obtain ⟨rfl, rfl⟩ := Prod.mk.inj e
    have q : (z != 0) = true := by simpa using hz
    clear hz e hans HA3 w0 w1 y0 y1
    go_wp2
    go_ret2
    exact ⟨rfl, K.out⟩
  subst hz
  obtain ⟨hf, MOK⟩ := matAns_ok HA3.out
  obtain ⟨N, rfl, RG⟩ := right_of (fault_zero hf)
  rw [← HE.out.len] at RG
  have hN := RG.nodes
  have hn := RG.edges
  have RGH := hid_of RG
  have MH := hid_of MOK
  have lmb : lm ≤ 4096 := by have := MOK.1.len_le; omega
  have ANS : Hid ((ChpOk es N n m lm Y my ss ns → v = csum es m lm ∧ code = 0) ∧ (¬ ChpOk es N n m lm Y my ss ns → v = 0 ∧ code = 221)) := by
    have e := hans.out
    unfold chpAns at e
    rw [if_neg (by simp [hf]), Int.toNat_natCast] at e
    refine ⟨fun t => ?_, fun t => ?_⟩
    · rw [if_pos t] at e
      obtain ⟨rfl, rfl⟩ := Prod.mk.inj e
      exact ⟨rfl, rfl⟩
    · rw [if_neg t] at e
      obtain ⟨rfl, rfl⟩ := Prod.mk.inj e
      exact ⟨rfl, rfl⟩
  have NO : Hid (¬ ChpOk es N n m lm Y my ss ns → v = 0 ∧ code = 221) := ANS.out.2
  have WRL : IntKind.i64.wrap ((lm : Int) + (lm : Int)) = (lm : Int) + (lm : Int) := wrap_id (by omega) (by omega)
  clear hans hf MOK RG HA3
  by_cases h2 : 2 * lm = N
  rotate_left
  · obtain ⟨rfl, rfl⟩ := NO.out (fun t => h2 t.2.1)
    have q : ((lm : Int) + (lm : Int) != (N : Int)) = true := by simp; omega
    clear ANS NO
    go_wp2
    go_ret2
    exact ⟨rfl, K.out⟩
  have q : ((lm : Int) + (lm : Int) != (N : Int)) = false := by simp; omega
  have H2 := hid_of h2
  clear h2
  go_wp2_with fail
  refine (weightsR_calls N yo my yc Y so ns sc ss wa (HY.out.kept K.out) (HS.out.kept K.out)).mono ?_
  rintro e wb ⟨K2, ⟨wok, rfl⟩ | ⟨wok, rfl⟩⟩
  rotate_left
  · obtain ⟨rfl, rfl⟩ := NO.out (fun t => wok t.2.2.1)
    replace K := hid_of (K.out.trans K2)
    clear K2 w0 w1 y0 y1 wok ANS NO
    go_wp2
    go_ret2
    exact ⟨rfl, K.out⟩
  have KB := hid_of (K.out.trans K2)
  have W0H := hid_of (K2.cell w0)
  have W1H := hid_of (K2.cell w1)
  have Y0H := hid_of (K2.cell y0)
  have Y1H := hid_of (K2.cell y1)
  have WOK := hid_of wok
  have w1 := W1H.out
  clear K2 wok K w0 y0 y1
  go_wp2_with fail
  go_loopw [9, 10] (fun i _ w2 => ∃ (j : Nat), j ≤ n ∧ i = .int .i64 j ∧ Kept wb w2 ∧ ∀ q, q < j → lp es q = true ∨ Within (pairOf Y ss ns (edAt es q).f.toNat (edAt es q).t.toNat) (2 * (edAt es q).k)) (fun i _ _ => n - (intOf i).toNat)
  case atStart => exact ⟨0, by omega, rfl, Kept.refl _, fun i hi => by omega⟩
  case round =>
    obtain ⟨j, hj, rfl, K, hno⟩ := hrel
    have HNO := hid_of hno
    have KH := hid_of K
    have w1 := K.cell W1H.out
    have y0 := K.cell Y0H.out
    have y1 := K.cell Y1H.out
    clear hno
    by_cases hgo2 : (j : Int) < (n : Int)
    · obtain ⟨b, off, rfl, hc⟩ := (HE.out.kept (KB.out.trans K)).cell (by omega)
      obtain ⟨d1, d2, d3, d4⟩ := hc j (by omega)
      obtain ⟨e1, e2, e3, e4⟩ := RGH.out.ends j (by omega)
      obtain ⟨l1, l2⟩ := RGH.out.costs j (by omega)
      have HIT : Hid ((lp es j = true ∨ Within (pairOf Y ss ns (edAt es j).f.toNat (edAt es j).t.toNat) (2 * (edAt es j).k)) → ∀ q, q < j + 1 → lp es q = true ∨ Within (pairOf Y ss ns (edAt es q).f.toNat (edAt es q).t.toNat) (2 * (edAt es q).k)) := fun hb i hi => by
        by_cases e : i = j
        · subst e; exact hb
        · exact HNO.out i (by omega)
      have MISS : Hid (¬ (lp es j = true ∨ Within (pairOf Y ss ns (edAt es j).f.toNat (edAt es j).t.toNat) (2 * (edAt es j).k)) → ¬ ChpOk es N n m lm Y my ss ns) := fun hb t => hb (t.2.2.2.1 j (by omega))
      unfold lp at HIT MISS
      generalize edAt es j = e at d1 d2 d3 d4 e1 e2 e3 e4 l1 l2 HIT MISS
      obtain ⟨ef, et, ec, ek⟩ := e
      simp only at d1 d2 d3 d4 e1 e2 e3 e4 l1 l2 HIT MISS
      obtain ⟨f, rfl⟩ : ∃ f : Nat, ef = (f : Int) := ⟨ef.toNat, by omega⟩
      obtain ⟨t, rfl⟩ : ∃ t : Nat, et = (t : Int) := ⟨et.toNat, by omega⟩
      simp only [Int.toNat_natCast] at HIT MISS
      have hfN : f < N := by omega
      have htN : t < N := by omega
      have WR : IntKind.i64.wrap (ek + ek) = ek + ek := wrap_id (by omega) (by omega)
      have PC := hid_of (fun w' (K' : Kept wr w') => pairR_calls N hN yo my yc Y so ns sc ss f t hfN htN w' (HY.out.kept (KB.out.trans (K.trans K'))) (HS.out.kept (KB.out.trans (K.trans K'))) WOK.out)
      obtain ⟨pr, hpr⟩ : ∃ pr, pairOf Y ss ns f t = pr := ⟨_, rfl⟩
      rw [hpr] at HIT MISS PC
      clear hc K hpr e1 e2 e3 e4
      go_upto_region 10 with fail
      generalize hW : wr.alloc (Obj.cells #[.int .i64 (f : Int), .int .i64 (t : Int), .int .i64 ec, .int .i64 ek] 86) = W3
      obtain ⟨EK, a0, a1, a2, a3, -⟩ := edge_box hW
      replace y0 := EK.cell y0
      replace y1 := EK.cell y1
      have PC3 := hid_of (fun w' (K' : Kept W3 w') => PC.out w' (EK.trans K'))
      have K3 := hid_of (KH.out.trans EK)
      clear d1 d2 d3 d4 EK KH hW a2 w1 PC
      by_cases hft : f = t
      · have hq : ((f : Int) != (t : Int)) = false := by simp; omega
        have P := hid_of (HIT.out (.inl (by rw [beq_iff_eq]; omega)))
        clear HIT MISS hft PC3
        refine Ord.region [(0, 0), (1, 1), (2, 0), (3, 1), (4, 0), (5, 0), (6, 1), (7, 0), (8, 1), (9, 0), (10, 1), (12, 0), (13, 1), (14, 0), (15, 1), (16, 0), (11, 2), (17, 0), (18, 0)] (fun w' => Kept W3 w') (by kernel_rfl) (by kernel_rfl) (by kernel_rfl) (by kernel_rfl) (fun _ _ d _ _ h => by cases d <;> exact h) ((Kept.refl _).drewN _) ?_
        repeat
          refine Ord.step rfl (fun Ko hK => ?_)
          simp only [Ord.body]
          go_simp
          first
            | (refine hK _ _ ?_; clear hK Ko)
            | (refine ⟨_, fun w' hS => (by have c0 := hS.cell a0; have c1 := hS.cell a1; have c2 := hS.cell a3; have c3 := hS.cell y0; have c4 := hS.cell y1; simp only [c0, c1, c2, c3, c4, Result.andThen]; rfl), hK _ _ ?_⟩; clear hK Ko)
            | ((simp only [hq]))
        refine Ord.done ?_
        have KN := hid_of (K3.out.trans ((Kept.refl _).drewN 1))
        clear a0 a1 a3 y0 y1
        go_wp2_with fail
        go_roundw
        case rel => exact ⟨j + 1, by omega, by go_num, KN.out, P.out⟩
        case measure => simp [intOf]; omega
      · have hq : ((f : Int) != (t : Int)) = true := by simp; omega
        by_cases hle : pr ≤ 2 * ek
        · have qd : decide (ek + ek < pr) = false := decide_eq_false (by omega)
          have P := hid_of (HIT.out (.inr hle))
          clear HIT MISS hft hle
          refine Ord.region [(0, 0), (1, 1), (2, 0), (3, 1), (4, 0), (5, 0), (6, 1), (7, 0), (8, 1), (9, 0), (10, 1), (12, 0), (13, 1), (14, 0), (15, 1), (16, 0), (11, 2), (17, 0), (18, 0)] (fun w' => Kept W3 w') (by kernel_rfl) (by kernel_rfl) (by kernel_rfl) (by kernel_rfl) (fun _ _ d _ _ h => by cases d <;> exact h) ((Kept.refl _).drewN _) ?_
          repeat
            refine Ord.step rfl (fun Ko hK => ?_)
            simp only [Ord.body]
            go_simp
            first
              | (refine hK _ _ ?_; clear hK Ko)
              | (refine ⟨_, fun w' hS => (by have c0 := hS.cell a0; have c1 := hS.cell a1; have c2 := hS.cell a3; have c3 := hS.cell y0; have c4 := hS.cell y1; simp only [c0, c1, c2, c3, c4, Result.andThen]; rfl), hK _ _ ?_⟩; clear hK Ko)
              | (go_at_call 71; refine (PC3.out _ ((Kept.refl _).drewN _)).mono ?_; clear PC3; rintro e w5 ⟨rfl, K5⟩; refine ⟨((Kept.refl _).drewN _).trans K5, hK _ _ ?_⟩; clear hK Ko)
              | ((simp only [WR, hq, qd]))
          refine Ord.done ?_
          have KN := hid_of (K3.out.trans (((Kept.refl _).drewN 1).trans K5))
          clear a0 a1 a3 y0 y1 K5
          go_wp2_with fail
          go_roundw
          case rel => exact ⟨j + 1, by omega, by go_num, KN.out, P.out⟩
          case measure => simp [intOf]; omega
        · obtain ⟨rfl, rfl⟩ := NO.out (MISS.out (fun u => by
            rcases u with u | u
            · rw [beq_iff_eq] at u; omega
            · exact hle u))
          have qd : decide (ek + ek < pr) = true := decide_eq_true (by omega)
          clear HIT MISS hft hle
          refine Ord.region [(0, 0), (1, 1), (2, 0), (3, 1), (4, 0), (5, 0), (6, 1), (7, 0), (8, 1), (9, 0), (10, 1), (12, 0), (13, 1), (14, 0), (15, 1), (16, 0), (11, 2), (17, 0), (18, 0)] (fun w' => Kept W3 w') (by kernel_rfl) (by kernel_rfl) (by kernel_rfl) (by kernel_rfl) (fun _ _ d _ _ h => by cases d <;> exact h) ((Kept.refl _).drewN _) ?_
          repeat
            refine Ord.step rfl (fun Ko hK => ?_)
            simp only [Ord.body]
            go_simp
            first
              | (refine hK _ _ ?_; clear hK Ko)
              | (refine ⟨_, fun w' hS => (by have c0 := hS.cell a0; have c1 := hS.cell a1; have c2 := hS.cell a3; have c3 := hS.cell y0; have c4 := hS.cell y1; simp only [c0, c1, c2, c3, c4, Result.andThen]; rfl), hK _ _ ?_⟩; clear hK Ko)
              | (go_at_call 71; refine (PC3.out _ ((Kept.refl _).drewN _)).mono ?_; clear PC3; rintro e w5 ⟨rfl, K5⟩; refine ⟨((Kept.refl _).drewN _).trans K5, hK _ _ ?_⟩; clear hK Ko)
              | ((simp only [WR, hq, qd]))
          refine Ord.done ?_
          have KN := hid_of (KB.out.trans (K3.out.trans (((Kept.refl _).drewN 1).trans K5)))
          clear a0 a1 a3 y0 y1 K5
          go_wp2
          go_ret2
          exact ⟨rfl, KN.out⟩
    · obtain rfl : j = n := by omega
      have w0 := K.cell W0H.out
      have KF := hid_of (KB.out.trans K)
      have CO := hid_of (costR_calls (N : Int) N ao j cap es mo lm mc m wr (HE.out.kept KF.out) (HJ.out.kept KF.out) RGH.out (fun i hi => MH.out.1.rng hi) lmb)
      have WC := hid_of (fun w' (K' : Kept wr w') => worthR_calls N hN yo my yc Y so ns sc ss w' (HY.out.kept (KF.out.trans K')) (HS.out.kept (KF.out.trans K')) WOK.out)
      have DDEF : Hid (ChpOk es N j m lm Y my ss ns ↔ worthOf Y my ss ns = 2 * csum es m lm) := ⟨fun t => t.2.2.2.2, fun t => ⟨MH.out, H2.out, WOK.out, HNO.out, t⟩⟩
      obtain ⟨cb1, cb2⟩ := csum_bd RGH.out (fun i hi => MH.out.1.rng hi) lm (Nat.le_refl _)
      obtain ⟨S, hS⟩ : ∃ S, csum es m lm = S := ⟨_, rfl⟩
      obtain ⟨Q, hQ⟩ : ∃ Q, worthOf Y my ss ns = Q := ⟨_, rfl⟩
      rw [hS, hQ] at DDEF
      rw [hS] at CO ANS cb1 cb2
      rw [hQ] at WC
      have WRS : IntKind.i64.wrap (S + S) = S + S := wrap_id (by omega) (by omega)
      clear K hS hQ cb1 cb2
      go_wp2_with fail
      refine CO.out.mono ?_
      rintro e wf ⟨rfl, K9⟩
      have KN := hid_of (KF.out.trans K9)
      replace y0 := K9.cell y0
      replace y1 := K9.cell y1
      have WC2 := hid_of (WC.out wf K9)
      clear K9 w0 w1 CO WC
      go_wp2_with fail
      refine WC2.out.mono ?_
      rintro e wg ⟨rfl, K10⟩
      have KG := hid_of (KN.out.trans K10)
      clear K10 WC2 y0 y1
      by_cases he : Q = S + S
      · obtain ⟨rfl, rfl⟩ := ANS.out.1 (DDEF.out.2 (by omega))
        have q : (Q != v + v) = false := by simpa using he
        clear NO ANS DDEF
        subst he
        have q2 : (v + v != v + v) = false := by simp
        go_wp2
        go_ret2
        exact ⟨rfl, KG.out⟩
      · obtain ⟨rfl, rfl⟩ := NO.out (fun t => he (by have := DDEF.out.1 t; omega))
        have q : (Q != S + S) = true := by simpa using he
        clear NO ANS he DDEF
        go_wp2
        go_ret2
        exact ⟨rfl, KG.out⟩
end Go.Proofs.YtpdppjngbbkbbaaDoor

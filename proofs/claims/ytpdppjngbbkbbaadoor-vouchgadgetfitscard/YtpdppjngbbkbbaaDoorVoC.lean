/- Rising numbers, members of a list: mustRise, members, isLoop, mustBeWeights, sumOf, costOf. -/
import Derived.Test.YtpdppjngbbkbbaaDoorVoB
namespace Go.Proofs.YtpdppjngbbkbbaaDoor
open Go.RowKit

/-- The number ahead. -/
def lastOf (m : List Int) : Nat → Int
  | 0 => -1
  | j + 1 => zAt m j
/-- Rising numbers below an end, the first k. -/
def RiseTo (m : List Int) (e : Int) (k : Nat) : Prop := ∀ j, j < k → lastOf m j < zAt m j ∧ zAt m j < e
theorem RiseTo.mono {m : List Int} {e : Int} {k j : Nat} (h : RiseTo m e k) (hj : j ≤ k) : RiseTo m e j := fun i hi => h i (by omega)
theorem RiseTo.nonneg {m : List Int} {e : Int} {k : Nat} (h : RiseTo m e k) : ∀ j, j < k → 0 ≤ zAt m j := by
  intro j
  induction j with
  | zero => intro hj; have := (h 0 hj).1; simp only [lastOf] at this; omega
  | succ j ih => intro hj; have := (h (j + 1) hj).1; simp only [lastOf] at this; have := ih (by omega); omega
theorem RiseTo.rng {m : List Int} {e : Int} {k : Nat} (h : RiseTo m e k) {j : Nat} (hj : j < k) : 0 ≤ zAt m j ∧ zAt m j < e := ⟨h.nonneg j hj, (h j hj).2⟩
theorem RiseTo.lt {m : List Int} {e : Int} {k : Nat} (h : RiseTo m e k) {i j : Nat} (hij : i < j) (hj : j < k) : zAt m i < zAt m j := by
  induction j with
  | zero => omega
  | succ j ih =>
    have a := (h (j + 1) hj).1
    simp only [lastOf] at a
    by_cases c : i = j
    · subst c; exact a
    · have := ih (by omega) (by omega); omega
/-- Is a number among the first k of a list? -/
def inTo (m : List Int) (k : Nat) (v : Nat) : Bool := (List.range k).any fun j => zAt m j == (v : Int)
theorem inTo_iff {m : List Int} {k v : Nat} : inTo m k v = true ↔ ∃ j, j < k ∧ zAt m j = (v : Int) := by
  simp [inTo, List.any_eq_true]
theorem inTo_succ (m : List Int) (k v : Nat) : inTo m (k + 1) v = if (v : Int) = zAt m k then true else inTo m k v := by
  unfold inTo
  rw [List.range_succ, List.any_append]
  by_cases e : (v : Int) = zAt m k
  · simp [e]
  · have : ¬ zAt m k = (v : Int) := fun t => e t.symm
    simp [e, this]

theorem isLoop_calls (e : Ed) (w : World) : Calls Tryd.prog 53 #[e.val] w fun r w' => r = .returned (.bool (e.f == e.t)) ∧ Kept w w' := by
  obtain ⟨f, t, c, k⟩ := e
  have KW := (Kept.refl w).alloc (Obj.cells #[.int .i64 f, .int .i64 t, .int .i64 c, .int .i64 k] 86)
  go_enter Tryd.func53, Tryd.ntmps53
  go_wp2
  go_ret
  exact ⟨rfl, KW⟩

set_option maxRecDepth 100000 in
set_option linter.unusedSimpArgs false in
set_option maxHeartbeats 2000000 in
theorem mustRise_calls (co : Option Addr) (L cc : Nat) (c : List Int) (e : Int) (w : World) (hJ : JRow w co L cc c) :
    Calls Tryd.prog 50 #[.slice co L cc, .int .i64 e] w fun r w' => Kept w w' ∧ ((RiseTo c e L ∧ r = .returned (.tuple #[])) ∨ (¬ RiseTo c e L ∧ r = .panicked [{ v := .iface 140 (.agg #[.int .i64 221]), recovered := false }])) := by
  have hr2 := hJ.room
  have hm2 := hJ.most
  unfold maxLen at hm2
  have HJ := hid_of hJ
  clear hJ
  go_enter Tryd.func50, Tryd.ntmps50
  go_wp2_with fail
  go_loopw [4, 6, 9] (fun s _ i wr => ∃ (k : Nat), k ≤ L ∧ i = .int .i64 k ∧ s = .int .i64 (lastOf c k) ∧ w = wr ∧ RiseTo c e k) (fun _ _ i _ => L - (intOf i).toNat)
  case atStart => exact ⟨0, by omega, rfl, rfl, rfl, fun i hi => by omega⟩
  case round =>
    obtain ⟨k, hk, rfl, rfl, rfl, hno⟩ := hrel
    have HNO := hid_of hno
    clear hno
    by_cases hgo : (k : Int) < (L : Int)
    · obtain ⟨b2, off2, rfl, hc2⟩ := HJ.out.at (by omega)
      have d5 := hc2 k (by omega)
      clear hc2
      have HIT : Hid ((lastOf c k < zAt c k ∧ zAt c k < e) → RiseTo c e (k + 1)) := fun hb i hi => by
        by_cases e : i = k
        · subst e; exact hb
        · exact HNO.out i (by omega)
      have MISS : Hid (¬ (lastOf c k < zAt c k ∧ zAt c k < e) → ¬ RiseTo c e L) := fun hb t => hb (t k (by omega))
      have LX : Hid (lastOf c (k + 1) = zAt c k) := rfl
      generalize zAt c k = x at d5 HIT MISS LX
      generalize lastOf c k = l at HIT MISS
      clear HJ
      by_cases hx : l < x
      · by_cases hy : x < e
        · have P := hid_of (HIT.out ⟨hx, hy⟩)
          clear HIT MISS
          go_wp2_with (go_at_call 51; refine (must_ok _).mono ?_; rintro e w' ⟨rfl, rfl⟩)
          go_roundw
          case rel => exact ⟨k + 1, by omega, by go_num, by rw [LX.out], by trivial, P.out⟩
          case measure => simp [intOf]; omega
        · have P := hid_of (MISS.out (fun t => hy t.2))
          clear HIT MISS
          go_wp2_with (go_at_call 51; refine (must_no _).mono ?_; rintro e w' ⟨rfl, rfl⟩)
          exact ⟨rfl, Kept.refl _, .inr ⟨P.out, rfl⟩⟩
      · have P := hid_of (MISS.out (fun t => hx t.1))
        clear HIT MISS
        go_wp2_with (go_at_call 51; refine (must_no _).mono ?_; rintro e w' ⟨rfl, rfl⟩)
        exact ⟨rfl, Kept.refl _, .inr ⟨P.out, rfl⟩⟩
    · obtain rfl : k = L := by omega
      go_wp2
      exact bodyPost_end (v := .tuple #[]) (by simp [results, Tryd.results50]) rfl ⟨Kept.refl _, .inl ⟨HNO.out, rfl⟩⟩

set_option maxRecDepth 100000 in
set_option linter.unusedSimpArgs false in
set_option maxHeartbeats 2000000 in
theorem members_calls (co : Option Addr) (L cc : Nat) (c : List Int) (N : Nat) (hN : N ≤ 1024) (w : World) (hJ : JRow w co L cc c) (hr : ∀ j, j < L → 0 ≤ zAt c j ∧ zAt c j < (N : Int)) :
    Calls Tryd.prog 52 #[.slice co L cc, .int .i64 (N : Int)] w fun r w' => ∃ g, r = .returned (.slice (some ⟨g, 0, none⟩) N N) ∧ w.heap.size ≤ g ∧ Kept w w' ∧ BlsAt w' g N (inTo c L) := by
  have hr2 := hJ.room
  have hm2 := hJ.most
  unfold maxLen at hm2
  have hmk : ∀ w : World, (Instr.makeSlice 94 (.int .i64 (N : Int)) (.int .i64 (N : Int))).run Tryd.prog w = .ok (.slice (some ⟨w.heap.size, 0, none⟩) N N) (w.alloc (.cells (madeCells #[.bool false] N) 4)) :=
    fun w => run_make_row' 94 4 (.bool false) 1 Tryd.underlying94 infoBl0 rfl .i64 .i64 N (by omega) (by omega) w
  have KW : Kept w (w.alloc (.cells (madeCells #[.bool false] N) 4)) := (Kept.refl w).alloc _
  have B0 : BlsAt (w.alloc (.cells (madeCells #[.bool false] N) 4)) w.heap.size N (inTo c 0) := World.rowIs.congr (World.rowIs_made w (.bool false) N 4) (fun i _ => by simp [inTo])
  have HJ := hid_of hJ
  have HR := hid_of hr
  obtain ⟨q, hq⟩ : ∃ q, w.heap.size = q := ⟨_, rfl⟩
  have HQ := hid_of hq
  clear hJ hr
  go_enter Tryd.func52, Tryd.ntmps52
  go_upto_region 2 with fail
  rw [hq] at B0
  generalize w.alloc (.cells (madeCells #[.bool false] N) 4) = W1 at KW B0 ⊢
  have HKW := hid_of KW
  have BH := hid_of B0
  clear hmk KW B0 hq
  go_wp2_with fail
  go_loopw [7, 12] (fun _ i wr => ∃ (k : Nat), k ≤ L ∧ i = .int .i64 k ∧ Kept w wr ∧ BlsAt wr q N (inTo c k)) (fun _ i _ => L - (intOf i).toNat)
  case atStart => exact ⟨0, by omega, rfl, HKW.out, BH.out⟩
  case round =>
    obtain ⟨k, hk, rfl, K, BR⟩ := hrel
    have BRH := hid_of BR
    clear BR BH
    by_cases hgo : (k : Int) < (L : Int)
    · obtain ⟨b2, off2, rfl, hc2⟩ := (HJ.out.kept K).at (by omega)
      have d5 := hc2 k (by omega)
      obtain ⟨x1, x2⟩ := HR.out k (by omega)
      obtain ⟨x, hx⟩ : ∃ x : Nat, zAt c k = (x : Int) := ⟨(zAt c k).toNat, by omega⟩
      have SU : Hid (∀ v : Nat, inTo c (k + 1) v = if v = x then true else inTo c k v) := fun v => by
        rw [inTo_succ, hx]
        by_cases e : v = x
        · subst e; simp
        · have : ¬ (v : Int) = (x : Int) := by omega
          simp [e, this]
      rw [hx] at d5 x2
      have hxn : x < N := by omega
      have cs := BRH.out.cell hxn
      have fs := World.rowIs.frozen BRH.out x
      have KS : Hid (Kept w (wr.setCell ⟨q, x, none⟩ (.bool true))) := K.setCell (p := ⟨q, x, none⟩) (by rw [HQ.out]; exact Nat.le_refl _) _
      have BN : Hid (BlsAt (wr.setCell ⟨q, x, none⟩ (.bool true)) q N (inTo c (k + 1))) := (BlsAt.set BRH.out x true).congr (fun u _ => by
        simp only []
        rw [SU.out u])
      clear hc2 hx x1
      go_wp2_with fail
      go_roundw
      case rel => exact ⟨k + 1, by omega, by go_num, KS.out, BN.out⟩
      case measure => simp [intOf]; omega
    · obtain rfl : k = L := by omega
      have HK := hid_of K
      clear K
      go_wp2
      go_ret
      exact ⟨q, rfl, by rw [HQ.out]; exact Nat.le_refl _, HK.out, BRH.out⟩

set_option maxRecDepth 100000 in
set_option linter.unusedSimpArgs false in
set_option maxHeartbeats 2000000 in
theorem mustPot_calls (N : Nat) (bo : Option Addr) (m bc : Nat) (pot : List Int) (w : World) (hJ : JRow w bo m bc pot) :
    Calls Tryd.prog 57 #[.slice bo m bc, .int .i64 (N : Int)] w fun e w' => Kept w w' ∧ ((PotsOk pot m N ∧ e = .returned (.tuple #[])) ∨ (¬ PotsOk pot m N ∧ e = .panicked [{ v := .iface 140 (.agg #[.int .i64 221]), recovered := false }])) := by
  have hr2 := hJ.room
  have hm2 := hJ.most
  unfold maxLen at hm2
  have HJ := hid_of hJ
  clear hJ
  by_cases hmn : m = N
  · subst hmn
    have q : ((m : Int) == (m : Int)) = true := by simp
    go_enter Tryd.func57, Tryd.ntmps57
    go_wp2_with (go_at_call 51; refine (must_ok _).mono ?_; rintro e w' ⟨rfl, rfl⟩)
    go_loopw [5, 13] (fun _ i wr => ∃ (k : Nat), k ≤ m ∧ i = .int .i64 k ∧ w = wr ∧ ∀ j, j < k → -4398046511104 ≤ zAt pot j ∧ zAt pot j ≤ 4398046511104) (fun _ i _ => m - (intOf i).toNat)
    case atStart => exact ⟨0, by omega, rfl, rfl, fun i hi => by omega⟩
    case round =>
      obtain ⟨k, hk, rfl, rfl, hno⟩ := hrel
      have HNO := hid_of hno
      clear hno
      by_cases hgo : (k : Int) < (m : Int)
      · obtain ⟨b2, off2, rfl, hc2⟩ := HJ.out.at (by omega)
        have d5 := hc2 k (by omega)
        clear hc2
        have HIT : Hid ((-4398046511104 ≤ zAt pot k ∧ zAt pot k ≤ 4398046511104) → ∀ j, j < k + 1 → -4398046511104 ≤ zAt pot j ∧ zAt pot j ≤ 4398046511104) := fun hb i hi => by
          by_cases e : i = k
          · subst e; exact hb
          · exact HNO.out i (by omega)
        have MISS : Hid (¬ (-4398046511104 ≤ zAt pot k ∧ zAt pot k ≤ 4398046511104) → ¬ PotsOk pot m m) := fun hb t => hb (t.2 k (by omega))
        generalize zAt pot k = x at d5 HIT MISS
        clear HJ
        by_cases hx : -4398046511104 ≤ x
        · by_cases hy : x ≤ 4398046511104
          · have P := hid_of (HIT.out ⟨hx, hy⟩)
            clear HIT MISS
            go_wp2_with (go_at_call 51; refine (must_ok _).mono ?_; rintro e w' ⟨rfl, rfl⟩)
            go_roundw
            case rel => exact ⟨k + 1, by omega, by go_num, by trivial, P.out⟩
            case measure => simp [intOf]; omega
          · have P := hid_of (MISS.out (fun t => hy t.2))
            clear HIT MISS
            go_wp2_with (go_at_call 51; refine (must_no _).mono ?_; rintro e w' ⟨rfl, rfl⟩)
            exact ⟨rfl, Kept.refl _, .inr ⟨P.out, rfl⟩⟩
        · have P := hid_of (MISS.out (fun t => hx t.1))
          clear HIT MISS
          go_wp2_with (go_at_call 51; refine (must_no _).mono ?_; rintro e w' ⟨rfl, rfl⟩)
          exact ⟨rfl, Kept.refl _, .inr ⟨P.out, rfl⟩⟩
      · obtain rfl : k = m := by omega
        go_wp2
        exact bodyPost_end (v := .tuple #[]) (by simp [results, Tryd.results57]) rfl ⟨Kept.refl _, .inl ⟨⟨rfl, HNO.out⟩, rfl⟩⟩
  · have q : ((m : Int) == (N : Int)) = false := by simp; omega
    go_enter Tryd.func57, Tryd.ntmps57
    go_wp2_with (go_at_call 51; refine (must_no _).mono ?_; rintro e w' ⟨rfl, rfl⟩)
    exact ⟨rfl, Kept.refl _, .inr ⟨fun t => hmn t.1, rfl⟩⟩

set_option maxRecDepth 100000 in
set_option linter.unusedSimpArgs false in
set_option maxHeartbeats 2000000 in
theorem sumOf_calls (bo : Option Addr) (m bc : Nat) (pot : List Int) (w : World) (hJ : JRow w bo m bc pot) (hm : m ≤ 1024) (hp : ∀ i, i < m → -4398046511104 ≤ zAt pot i ∧ zAt pot i ≤ 4398046511104) :
    Calls Tryd.prog 59 #[.slice bo m bc] w fun e w' => e = .returned (.int .i64 (sm (zAt pot) m)) ∧ w = w' := by
  have hr2 := hJ.room
  have hm2 := hJ.most
  unfold maxLen at hm2
  have HJ := hid_of hJ
  have HP := hid_of hp
  clear hJ hp
  go_enter Tryd.func59, Tryd.ntmps59
  go_wp2_with fail
  go_loopw [3, 5, 8] (fun s _ i wr => ∃ (k : Nat), k ≤ m ∧ i = .int .i64 k ∧ s = .int .i64 (sm (zAt pot) k) ∧ w = wr) (fun _ _ i _ => m - (intOf i).toNat)
  case atStart => exact ⟨0, by omega, rfl, rfl, rfl⟩
  case round =>
    obtain ⟨k, hk, rfl, rfl, rfl⟩ := hrel
    by_cases hgo : (k : Int) < (m : Int)
    · obtain ⟨b2, off2, rfl, hc2⟩ := HJ.out.at (by omega)
      have d5 := hc2 k (by omega)
      have SU := hid_of (sm_succ (zAt pot) k)
      obtain ⟨p1, p2⟩ := HP.out k (by omega)
      obtain ⟨s1, s2⟩ := sm_bd (f := zAt pot) (k := k) (B := 4398046511104) (fun i hi => HP.out i (by omega))
      have s1' : -4503599627370496 ≤ sm (zAt pot) k := by omega
      have s2' : sm (zAt pot) k ≤ 4503599627370496 := by omega
      clear hc2 s1 s2
      generalize sm (zAt pot) k = s at SU s1' s2'
      generalize zAt pot k = x at d5 SU p1 p2
      have WR : IntKind.i64.wrap (s + x) = s + x := wrap_id (by omega) (by omega)
      go_wp2_with fail
      go_roundw
      case rel => exact ⟨k + 1, by omega, by go_num, by rw [SU.out], by trivial⟩
      case measure => simp [intOf]; omega
    · obtain rfl : k = m := by omega
      go_wp2
      go_ret
      exact ⟨rfl, by trivial⟩

/-- What the first k of some edges cost together. -/
def csum (es : List Ed) (c : List Int) (k : Nat) : Int := sm (fun j => (edAt es (zAt c j).toNat).k) k
theorem csum_succ (es : List Ed) (c : List Int) (k : Nat) : csum es c (k + 1) = csum es c k + (edAt es (zAt c k).toNat).k := rfl
theorem csum_bd {N n : Nat} {es : List Ed} (RG : Right N n es) {c : List Int} {L : Nat} (hr : ∀ j, j < L → 0 ≤ zAt c j ∧ zAt c j < (n : Int)) (k : Nat) (hk : k ≤ L) : -(1048576 * (k : Int)) ≤ csum es c k ∧ csum es c k ≤ 1048576 * (k : Int) :=
  sm_bd fun j hj => by
    have := hr j (by omega)
    exact RG.costs (zAt c j).toNat (by omega)

set_option maxRecDepth 100000 in
set_option linter.unusedSimpArgs false in
set_option maxHeartbeats 2000000 in
theorem costOf_calls (co : Option Addr) (L cc : Nat) (c : List Int) (nodes : Int) (N : Nat) (ao : Option Addr) (n cap : Nat) (es : List Ed) (w : World) (h : ERow w ao n cap es) (hJ : JRow w co L cc c) (RG : Right N n es) (hr : ∀ j, j < L → 0 ≤ zAt c j ∧ zAt c j < (n : Int)) (hL : L ≤ 4096) :
    Calls Tryd.prog 58 #[.slice co L cc, .agg #[.int .i64 nodes, .slice ao n cap]] w fun e w' => e = .returned (.int .i64 (csum es c L)) ∧ Kept w w' := by
  have hr1 := h.room
  have hm1 := h.most
  have hr2 := hJ.room
  have hm2 := hJ.most
  unfold maxLen at hm1 hm2
  have hn := RG.edges
  have KW : Kept w (w.alloc (Obj.cells #[.int .i64 nodes, .slice ao n cap] 24)) := (Kept.refl w).alloc _
  have w1 : (w.alloc (Obj.cells #[.int .i64 nodes, .slice ao n cap] 24)).cell? ⟨w.heap.size, 1, none⟩ = some (.slice ao n cap) := by simp [go_sem]
  have HE := hid_of (h.kept KW)
  have HJ := hid_of (hJ.kept KW)
  have RGH := hid_of RG
  have HR := hid_of hr
  clear h hJ RG hr
  go_enter Tryd.func58, Tryd.ntmps58
  go_wp2_with fail
  generalize w.alloc (Obj.cells #[.int .i64 nodes, .slice ao n cap] 24) = W1 at KW w1 HE HJ ⊢
  go_loopw [5, 7, 10] (fun s _ i wr => ∃ (j : Nat), j ≤ L ∧ i = .int .i64 j ∧ s = .int .i64 (csum es c j) ∧ W1 = wr) (fun _ _ i _ => L - (intOf i).toNat)
  case atStart => exact ⟨0, by omega, rfl, rfl, rfl⟩
  case round =>
    obtain ⟨j, hj, rfl, rfl, rfl⟩ := hrel
    by_cases hgo : (j : Int) < (L : Int)
    · obtain ⟨b2, off2, rfl, hc2⟩ := HJ.out.at (by omega)
      have d5 := hc2 j (by omega)
      obtain ⟨r1, r2⟩ := HR.out j (by omega)
      obtain ⟨b, off, rfl, hc⟩ := HE.out.cell (by omega)
      obtain ⟨-, -, -, d4⟩ := hc (zAt c j).toNat (by omega)
      obtain ⟨k1, k2⟩ := RGH.out.costs (zAt c j).toNat (by omega)
      obtain ⟨s1, s2⟩ := csum_bd RGH.out HR.out j hj
      have SU := hid_of (csum_succ es c j)
      clear hc hc2
      generalize csum es c j = sum at s1 s2 SU
      obtain ⟨q, hq⟩ : ∃ q : Nat, zAt c j = (q : Int) := ⟨(zAt c j).toNat, by omega⟩
      rw [hq] at d5 r1 r2 d4 k1 k2 SU
      simp only [Int.toNat_natCast] at d4 k1 k2 SU
      clear hq
      generalize (edAt es q).k = ek at d4 k1 k2 SU
      have WR : IntKind.i64.wrap (sum + ek) = sum + ek := wrap_id (by omega) (by omega)
      clear s1 s2 k1 k2
      go_wp2_with fail
      go_roundw
      case rel => exact ⟨j + 1, by omega, by go_num, by rw [SU.out], by trivial⟩
      case measure => simp [intOf]; omega
    · obtain rfl : j = L := by omega
      go_wp2
      go_ret
      exact ⟨rfl, KW⟩
end Go.Proofs.YtpdppjngbbkbbaaDoor

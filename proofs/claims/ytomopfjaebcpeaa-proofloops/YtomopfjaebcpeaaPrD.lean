/- mustBePotentials, reduced, leaving, costOf, surplus. -/
import Derived.Test.YtomopfjaebcpeaaPrC
import Derived.Test.YtomopfjaebcpeaaOrdZ
namespace Go.Proofs.Ytomopfjaebcpeaa
open Go.RowKit

/-- Potentials, one for each node, small enough. -/
def PotsOk (pot : List Int) (m N : Nat) : Prop := m = N ∧ ∀ i, i < N → -4398046511104 ≤ zAt pot i ∧ zAt pot i ≤ 4398046511104

set_option maxRecDepth 100000 in
set_option linter.unusedSimpArgs false in
set_option maxHeartbeats 2000000 in
theorem mustPot_calls (N : Nat) (s : Value) (bo : Option Addr) (m bc : Nat) (pot : List Int) (w : World) (hJ : JRow w bo m bc pot) :
    Calls Try.prog 59 #[.slice bo m bc, .agg #[.int .i64 (N : Int), s]] w fun e w' => Kept w w' ∧ ((PotsOk pot m N ∧ e = .returned (.tuple #[])) ∨ (¬ PotsOk pot m N ∧ e = .panicked [{ v := .iface 136 (.agg #[.int .i64 221]), recovered := false }])) := by
  have hr2 := hJ.room
  have hm2 := hJ.most
  unfold maxLen at hm2
  have KW : Kept w (w.alloc (Obj.cells #[.int .i64 (N : Int), s] 24)) := (Kept.refl w).alloc _
  have HJ := hid_of (hJ.kept KW)
  clear hJ
  by_cases hmn : m = N
  · subst hmn
    have q : ((m : Int) == (m : Int)) = true := by simp
    go_enter Try.func59, Try.ntmps59
    go_wp2_with (go_at_call 53; refine (must_ok _).mono ?_; rintro e w' ⟨rfl, rfl⟩)
    generalize w.alloc (Obj.cells #[.int .i64 (m : Int), s] 24) = W1 at KW HJ ⊢
    go_loopw [5, 14] (fun _ i wr => ∃ (k : Nat), k ≤ m ∧ i = .int .i64 k ∧ W1 = wr ∧ ∀ j, j < k → -4398046511104 ≤ zAt pot j ∧ zAt pot j ≤ 4398046511104) (fun _ i _ => m - (intOf i).toNat)
    case atStart => exact ⟨0, by omega, rfl, rfl, fun i hi => by omega⟩
    case round =>
      obtain ⟨k, hk, rfl, rfl, hno⟩ := hrel
      have HNO := hid_of hno
      clear hno
      by_cases hgo : (k : Int) < (m : Int)
      · obtain ⟨b2, off2, rfl, hc2⟩ := HJ.out.at (by omega)
        have d5 := hc2 k (by omega)
        clear hc2
        have HIT : Hid ((-4398046511104 ≤ zAt pot k ∧ zAt pot k ≤ 4398046511104) → ∀ j, j < k + 1 → -4398046511104 ≤ zAt pot j ∧ zAt pot j ≤ 4398046511104) := fun hb i hi => by
          by_cases e : i = k
          · subst e; exact hb
          · exact HNO.out i (by omega)
        have MISS : Hid (¬ (-4398046511104 ≤ zAt pot k ∧ zAt pot k ≤ 4398046511104) → ¬ PotsOk pot m m) := fun hb t => hb (t.2 k (by omega))
        generalize zAt pot k = x at d5 HIT MISS
        clear HJ
        by_cases hx : -4398046511104 ≤ x
        · by_cases hy : x ≤ 4398046511104
          · have P := hid_of (HIT.out ⟨hx, hy⟩)
            clear HIT MISS
            go_wp2_with (go_at_call 53; refine (must_ok _).mono ?_; rintro e w' ⟨rfl, rfl⟩)
            go_roundw
            case rel => exact ⟨k + 1, by omega, by go_num, by trivial, P.out⟩
            case measure => simp [intOf]; omega
          · have P := hid_of (MISS.out (fun t => hy t.2))
            clear HIT MISS
            go_wp2_with (go_at_call 53; refine (must_no _).mono ?_; rintro e w' ⟨rfl, rfl⟩)
            exact ⟨rfl, KW, .inr ⟨P.out, rfl⟩⟩
        · have P := hid_of (MISS.out (fun t => hx t.1))
          clear HIT MISS
          go_wp2_with (go_at_call 53; refine (must_no _).mono ?_; rintro e w' ⟨rfl, rfl⟩)
          exact ⟨rfl, KW, .inr ⟨P.out, rfl⟩⟩
      · obtain rfl : k = m := by omega
        go_wp2
        exact bodyPost_end (v := .tuple #[]) (by simp [results, Try.results59]) rfl ⟨KW, .inl ⟨⟨rfl, HNO.out⟩, rfl⟩⟩
  · have q : ((m : Int) == (N : Int)) = false := by simp; omega
    go_enter Try.func59, Try.ntmps59
    go_wp2_with (go_at_call 53; refine (must_no _).mono ?_; rintro e w' ⟨rfl, rfl⟩)
    exact ⟨rfl, KW, .inr ⟨fun t => hmn t.1, rfl⟩⟩

set_option maxRecDepth 100000 in
set_option linter.unusedSimpArgs false in
set_option maxHeartbeats 1000000 in
theorem reduced_calls (e : Ed) (N : Nat) (bo : Option Addr) (bc : Nat) (pot : List Int) (w : World) (hJ : JRow w bo N bc pot) (h1 : 0 ≤ e.f) (h2 : e.f < (N : Int)) (h3 : 0 ≤ e.t) (h4 : e.t < (N : Int)) (h5 : -1048576 ≤ e.k) (h6 : e.k ≤ 1048576)
    (hp : ∀ i, i < N → -4398046511104 ≤ zAt pot i ∧ zAt pot i ≤ 4398046511104) :
    Calls Try.prog 60 #[e.val, .slice bo N bc] w fun v w' => v = .returned (.int .i64 (e.k + zAt pot e.f.toNat - zAt pot e.t.toNat)) ∧ Kept w w' := by
  obtain ⟨f, t, c, k⟩ := e
  simp only at h1 h2 h3 h4 h5 h6
  have KW := (Kept.refl w).alloc (Obj.cells #[.int .i64 f, .int .i64 t, .int .i64 c, .int .i64 k] 98)
  have hr2 := hJ.room
  have hm2 := hJ.most
  unfold maxLen at hm2
  obtain ⟨b2, off2, rfl, hc2⟩ := (hJ.kept KW).at (by omega)
  have d1 := hc2 f.toNat (by omega)
  have d2 := hc2 t.toNat (by omega)
  obtain ⟨p1, p2⟩ := hp f.toNat (by omega)
  obtain ⟨p3, p4⟩ := hp t.toNat (by omega)
  obtain ⟨fn, rfl⟩ : ∃ fn : Nat, f = (fn : Int) := ⟨f.toNat, by omega⟩
  obtain ⟨tn, rfl⟩ : ∃ tn : Nat, t = (tn : Int) := ⟨t.toNat, by omega⟩
  have w0 : (w.alloc (Obj.cells #[.int .i64 (fn : Int), .int .i64 (tn : Int), .int .i64 c, .int .i64 k] 98)).cell? ⟨w.heap.size, 0, none⟩ = some (.int .i64 (fn : Int)) := by simp [go_sem]
  have w1 : (w.alloc (Obj.cells #[.int .i64 (fn : Int), .int .i64 (tn : Int), .int .i64 c, .int .i64 k] 98)).cell? ⟨w.heap.size, 1, none⟩ = some (.int .i64 (tn : Int)) := by simp [go_sem]
  have w3 : (w.alloc (Obj.cells #[.int .i64 (fn : Int), .int .i64 (tn : Int), .int .i64 c, .int .i64 k] 98)).cell? ⟨w.heap.size, 3, none⟩ = some (.int .i64 k) := by simp [go_sem]
  simp only [Int.toNat_natCast] at d1 d2 p1 p2 p3 p4 ⊢
  generalize zAt pot fn = x at d1 p1 p2 ⊢
  generalize zAt pot tn = y at d2 p3 p4 ⊢
  clear hc2 hp hJ
  go_enter Try.func60, Try.ntmps60
  go_wp2_with fail
  generalize w.alloc (Obj.cells #[.int .i64 (fn : Int), .int .i64 (tn : Int), .int .i64 c, .int .i64 k] 98) = W1 at KW d1 d2 w0 w1 w3 ⊢
  refine Ord.region [(0, 0), (1, 1), (2, 0), (3, 0), (4, 1), (5, 0), (6, 1), (7, 0), (8, 0), (9, 0), (10, 1), (11, 0), (12, 1), (13, 0), (14, 0)] (fun w' => Kept W1 w') (by kernel_rfl) (by kernel_rfl) (by kernel_rfl) (by kernel_rfl) (fun _ _ d _ _ h => by cases d <;> exact h) ((Kept.refl _).drewN _) ?_
  repeat
    refine Ord.step rfl (fun Ko hK => ?_)
    simp only [Ord.body]
    go_simp
    first
      | (refine hK _ _ ?_; clear hK Ko)
      | (refine ⟨_, fun w' hS => (by have c0 := hS.cell d1; have c1 := hS.cell d2; have c2 := hS.cell w0; have c3 := hS.cell w1; have c4 := hS.cell w3; simp only [c0, c1, c2, c3, c4, Result.andThen]; rfl), hK _ _ ?_⟩; clear hK Ko)
  refine Ord.done ?_
  have WR : IntKind.i64.wrap (IntKind.i64.wrap (k + x) - y) = k + x - y := by rw [wrap_id (x := k + x) (by omega) (by omega), wrap_id (by omega) (by omega)]
  rw [WR]
  go_wp2
  go_ret
  exact ⟨rfl, KW.drewN _⟩

/-- A bool of a list. -/
def bAt (bs : List Bool) (i : Nat) : Bool := bs.getD i false
theorem BRow.at {w : World} {ao : Option Addr} {n cap : Nat} {bs : List Bool} (h : BRow w ao n cap bs) (hn : 0 < n) : ∃ b off, ao = some ⟨b, off, none⟩ ∧ ∀ i, i < n → w.cell? ⟨b, off + i, none⟩ = some (.bool (bAt bs i)) := h.cell hn

theorem cut_bd {N n : Nat} {es : List Ed} (R : Right N n es) (side : Nat → Bool) (k : Nat) (hk : k ≤ n) : 0 ≤ cutTo es side k ∧ cutTo es side k ≤ 4294967296 := by
  have h0 : ∀ i, i < k → 0 ≤ cutT (side (edAt es i).f.toNat) (side (edAt es i).t.toNat) (edAt es i).c ∧ cutT (side (edAt es i).f.toNat) (side (edAt es i).t.toNat) (edAt es i).c ≤ 1048576 := fun i hi => cutT_bd (R.caps i (by omega)).1 (R.caps i (by omega)).2
  have h1 : sm (fun _ => 0) k ≤ cutTo es side k := sm_le fun i hi => (h0 i hi).1
  have h2 := (sm_bd (f := fun i => cutT (side (edAt es i).f.toNat) (side (edAt es i).t.toNat) (edAt es i).c) (k := k) (B := 1048576) fun i hi => ⟨by have := (h0 i hi).1; omega, (h0 i hi).2⟩).2
  rw [sm_zero] at h1
  have := R.edges
  unfold cutTo at h1 ⊢
  exact ⟨h1, by omega⟩
theorem cut_succ (es : List Ed) (side : Nat → Bool) (k : Nat) : cutTo es side (k + 1) = cutTo es side k + cutT (side (edAt es k).f.toNat) (side (edAt es k).t.toNat) (edAt es k).c := rfl

set_option maxRecDepth 100000 in
set_option linter.unusedSimpArgs false in
set_option maxHeartbeats 2000000 in
theorem leaving_calls (nodes : Int) (ao : Option Addr) (N n cap : Nat) (es : List Ed) (bo : Option Addr) (bc : Nat) (bs : List Bool) (w : World) (h : ERow w ao n cap es) (hB : BRow w bo N bc bs) (RG : Right N n es) :
    Calls Try.prog 55 #[.slice bo N bc, .agg #[.int .i64 nodes, .slice ao n cap]] w fun e w' => e = .returned (.int .i64 (cutTo es (bAt bs) n)) ∧ Kept w w' := by
  have hr := h.room
  have hm := h.most
  have hr2 := hB.room
  have hm2 := hB.most
  unfold maxLen at hm hm2
  have hN := RG.nodes
  have hn := RG.edges
  have KW : Kept w (w.alloc (Obj.cells #[.int .i64 nodes, .slice ao n cap] 24)) := (Kept.refl w).alloc _
  have HE := hid_of (h.kept KW)
  have HB := hid_of (hB.kept KW)
  have RGH := hid_of RG
  clear h hB RG
  go_enter Try.func55, Try.ntmps55
  go_wp2_with fail
  generalize w.alloc (Obj.cells #[.int .i64 nodes, .slice ao n cap] 24) = W1 at KW HE HB ⊢
  go_loopw [5, 7, 11] (fun s _ i wr => ∃ (k : Nat), k ≤ n ∧ i = .int .i64 k ∧ s = .int .i64 (cutTo es (bAt bs) k) ∧ Kept W1 wr) (fun _ _ i _ => n - (intOf i).toNat)
  case atStart => exact ⟨0, by omega, rfl, rfl, Kept.refl _⟩
  case round =>
    obtain ⟨k, hk, rfl, rfl, K⟩ := hrel
    by_cases hgo : (k : Int) < (n : Int)
    · obtain ⟨b, off, rfl, hc⟩ := HE.out.cell (by omega)
      obtain ⟨c1, c2, c3, c4⟩ := hc k (by omega)
      obtain ⟨e1, e2, e3, e4⟩ := RGH.out.ends k (by omega)
      obtain ⟨l1, l2⟩ := RGH.out.caps k (by omega)
      obtain ⟨s1, s2⟩ := cut_bd RGH.out (bAt bs) k hk
      obtain ⟨b2, off2, rfl, hc2⟩ := HB.out.at (by omega)
      have SU := hid_of (cut_succ es (bAt bs) k)
      have d1 := K.cell c1
      have d2 := K.cell c2
      have d3 := K.cell c3
      have d4 := K.cell c4
      have d5 := K.cell (hc2 (edAt es k).f.toNat (by omega))
      have d6 := K.cell (hc2 (edAt es k).t.toNat (by omega))
      clear hc c1 c2 c3 c4 hc2 HE HB
      generalize cutTo es (bAt bs) k = sum at s1 s2 SU
      generalize edAt es k = e at d1 d2 d3 d4 d5 d6 e1 e2 e3 e4 l1 l2 SU
      obtain ⟨ef, et, ec, ek⟩ := e
      simp only at d1 d2 d3 d4 d5 d6 e1 e2 e3 e4 l1 l2 SU
      obtain ⟨fn, rfl⟩ : ∃ fn : Nat, ef = (fn : Int) := ⟨ef.toNat, by omega⟩
      obtain ⟨tn, rfl⟩ : ∃ tn : Nat, et = (tn : Int) := ⟨et.toNat, by omega⟩
      simp only [Int.toNat_natCast] at d5 d6 SU
      generalize bAt bs fn = bf at d5 SU
      generalize bAt bs tn = bt at d6 SU
      have KE := K.alloc (Obj.cells #[.int .i64 (fn : Int), .int .i64 (tn : Int), .int .i64 ec, .int .i64 ek] 98)
      have d5' := ((Kept.refl wr).alloc (Obj.cells #[.int .i64 (fn : Int), .int .i64 (tn : Int), .int .i64 ec, .int .i64 ek] 98)).cell d5
      have d6' := ((Kept.refl wr).alloc (Obj.cells #[.int .i64 (fn : Int), .int .i64 (tn : Int), .int .i64 ec, .int .i64 ek] 98)).cell d6
      have hnot : ∀ (x : Bool) (w : World), (Op.unary .not (.bool x)).run Try.prog w = .ok (.bool (!x)) w := fun _ _ => rfl
      cases bf <;> cases bt
      all_goals
        have SV := hid_of SU.out.symm
        simp only [cutT, Int.add_zero] at SV
        clear SU
        go_wp2_with fail
        go_roundw
        case rel => exact ⟨k + 1, by omega, by go_num, by rw [← SV.out], KE⟩
        case measure => simp [intOf]; omega
    · obtain rfl : k = n := by omega
      go_wp2
      go_ret
      exact ⟨rfl, KW.trans K⟩
end Go.Proofs.Ytomopfjaebcpeaa

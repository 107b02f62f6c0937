/- What the gadget is made of: withoutLoops, demandNumbers, copiesOf, gadgetSize. -/
import Derived.Test.YtpdppjngbbkbbaaDoorVoJ
namespace Go.Proofs.YtpdppjngbbkbbaaDoor
open Go.RowKit

/-- Is an edge a loop? -/
def lp (es : List Ed) (i : Nat) : Bool := (edAt es i).f == (edAt es i).t
/-- How many of the first k edges are no loops. -/
def nlTo (es : List Ed) (k : Nat) : Int := sm (fun i => if lp es i then 0 else 1) k
theorem nlTo_succ (es : List Ed) (k : Nat) : nlTo es (k + 1) = nlTo es k + (if lp es k then 0 else 1) := rfl
theorem nlTo_bd (es : List Ed) (k : Nat) : 0 ≤ nlTo es k ∧ nlTo es k ≤ (k : Int) := by
  induction k with
  | zero => exact ⟨Int.le_refl _, Int.le_refl _⟩
  | succ k ih => rw [nlTo_succ]; split <;> omega

/-- The box of an edge that a round makes. -/
theorem edge_box {w W : World} {f t c k : Int} (h : w.alloc (Obj.cells #[.int .i64 f, .int .i64 t, .int .i64 c, .int .i64 k] 86) = W) : Kept w W ∧ W.cell? ⟨w.heap.size, 0, none⟩ = some (.int .i64 f) ∧ W.cell? ⟨w.heap.size, 1, none⟩ = some (.int .i64 t) ∧ W.cell? ⟨w.heap.size, 2, none⟩ = some (.int .i64 c) ∧ W.cell? ⟨w.heap.size, 3, none⟩ = some (.int .i64 k) ∧ W.heap.size = w.heap.size + 1 := by
  subst h
  exact ⟨(Kept.refl w).alloc _, by simp [go_sem], by simp [go_sem], by simp [go_sem], by simp [go_sem], by simp⟩

set_option maxRecDepth 100000 in
set_option linter.unusedSimpArgs false in
set_option maxHeartbeats 2000000 in
theorem without_calls (nodes : Int) (N : Nat) (ao : Option Addr) (n cap : Nat) (es : List Ed) (w : World) (h : ERow w ao n cap es) (RG : Right N n es) :
    Calls Tryd.prog 78 #[.agg #[.int .i64 nodes, .slice ao n cap]] w fun r w' => r = .returned (.int .i64 (nlTo es n)) ∧ Kept w w' := by
  have hr1 := h.room
  have hm1 := h.most
  unfold maxLen at hm1
  have hn := RG.edges
  have KW : Kept w (w.alloc (Obj.cells #[.int .i64 nodes, .slice ao n cap] 24)) := (Kept.refl w).alloc _
  have w1 : (w.alloc (Obj.cells #[.int .i64 nodes, .slice ao n cap] 24)).cell? ⟨w.heap.size, 1, none⟩ = some (.slice ao n cap) := by simp [go_sem]
  have HE := hid_of h
  clear h RG
  go_enter Tryd.func78, Tryd.ntmps78
  go_wp2_with fail
  generalize w.alloc (Obj.cells #[.int .i64 nodes, .slice ao n cap] 24) = W1 at KW w1 ⊢
  have HKW := hid_of KW
  clear KW w1
  go_loopw [3, 5, 9] (fun s _ i wr => ∃ (k : Nat), k ≤ n ∧ i = .int .i64 k ∧ s = .int .i64 (nlTo es k) ∧ Kept w wr) (fun _ _ i _ => n - (intOf i).toNat)
  case atStart => exact ⟨0, by omega, rfl, rfl, HKW.out⟩
  case round =>
    obtain ⟨k, hk, rfl, rfl, K⟩ := hrel
    have hnot : ∀ (x : Bool) (w : World), (Op.unary .not (.bool x)).run Tryd.prog w = .ok (.bool (!x)) w := fun _ _ => rfl
    have KH := hid_of K
    obtain ⟨s1, s2⟩ := nlTo_bd es k
    by_cases hgo : (k : Int) < (n : Int)
    · obtain ⟨b, off, rfl, hc⟩ := (HE.out.kept K).cell (by omega)
      obtain ⟨d1, d2, d3, d4⟩ := hc k (by omega)
      have SU := hid_of (nlTo_succ es k)
      unfold lp at SU
      generalize nlTo es k = s at SU s1 s2
      generalize edAt es k = e at d1 d2 d3 d4 SU
      have CL := hid_of (isLoop_calls e)
      obtain ⟨ef, et, ec, ek⟩ := e
      simp only at d1 d2 d3 d4 SU
      clear hc K
      go_upto_region 5 with fail
      generalize hW : wr.alloc (Obj.cells #[.int .i64 ef, .int .i64 et, .int .i64 ec, .int .i64 ek] 86) = W3
      obtain ⟨EK, a0, a1, a2, a3, -⟩ := edge_box hW
      have HK3 := hid_of (KH.out.trans EK)
      clear d1 d2 d3 d4 EK KH hW
      go_wp2_with fail
      refine (CL.out _).mono ?_
      rintro e w4 ⟨rfl, K4⟩
      have HK4 := hid_of (HK3.out.trans K4)
      clear K4 CL a0 a1 a2 a3 HK3
      by_cases hft : ef = et
      · have q : (ef == et) = true := by rw [beq_iff_eq]; exact hft
        have SU2 : Hid (nlTo es (k + 1) = s) := by
          show nlTo es (k + 1) = s
          rw [SU.out, if_pos q, Int.add_zero]
        clear SU s1 s2
        go_wp2_with fail
        go_roundw
        case rel => exact ⟨k + 1, by omega, by go_num, by rw [SU2.out], HK4.out⟩
        case measure => simp [intOf]; omega
      · have q : (ef == et) = false := by rw [beq_eq_false_iff_ne]; exact hft
        have SU2 : Hid (nlTo es (k + 1) = s + 1) := by
          show nlTo es (k + 1) = s + 1
          rw [SU.out, if_neg (by rw [q]; decide)]
        have WR : IntKind.i64.wrap (s + 1) = s + 1 := wrap_id (by omega) (by omega)
        clear s1 s2 SU
        go_wp2_with fail
        go_roundw
        case rel => exact ⟨k + 1, by omega, by go_num, by rw [SU2.out], HK4.out⟩
        case measure => simp [intOf]; omega
    · obtain rfl : k = n := by omega
      clear K
      go_wp2
      go_ret
      exact ⟨rfl, KH.out⟩

/-- Bounds, one for each node, small enough. -/
def BndOk (b : List Int) (mb N : Nat) : Prop := mb = N ∧ ∀ i, i < N → 0 ≤ zAt b i ∧ zAt b i ≤ 4096

set_option maxRecDepth 100000 in
set_option linter.unusedSimpArgs false in
set_option maxHeartbeats 2000000 in
theorem numbers_calls (N : Nat) (s : Value) (bo : Option Addr) (m bc : Nat) (b : List Int) (w : World) (hJ : JRow w bo m bc b) :
    Calls Tryd.prog 105 #[.slice bo m bc, .agg #[.int .i64 (N : Int), s]] w fun e w' => Kept w w' ∧ ((BndOk b m N ∧ e = .returned (.tuple #[])) ∨ (¬ BndOk b m N ∧ e = .panicked [{ v := .iface 140 (.agg #[.int .i64 130]), recovered := false }])) := by
  have hr2 := hJ.room
  have hm2 := hJ.most
  unfold maxLen at hm2
  have KW : Kept w (w.alloc (Obj.cells #[.int .i64 (N : Int), s] 24)) := (Kept.refl w).alloc _
  have w0 : (w.alloc (Obj.cells #[.int .i64 (N : Int), s] 24)).cell? ⟨w.heap.size, 0, none⟩ = some (.int .i64 (N : Int)) := by simp [go_sem]
  have HJ := hid_of (hJ.kept KW)
  clear hJ
  by_cases hmn : m = N
  · subst hmn
    have q : ((m : Int) == (m : Int)) = true := by simp
    go_enter Tryd.func105, Tryd.ntmps105
    go_wp2_with (go_at_call 81; refine (demand_ok _ _).mono ?_; rintro e w' ⟨rfl, rfl⟩)
    generalize w.alloc (Obj.cells #[.int .i64 (m : Int), s] 24) = W1 at KW HJ w0 ⊢
    go_loopw [5, 14] (fun _ i wr => ∃ (k : Nat), k ≤ m ∧ i = .int .i64 k ∧ W1 = wr ∧ ∀ j, j < k → 0 ≤ zAt b j ∧ zAt b j ≤ 4096) (fun _ i _ => m - (intOf i).toNat)
    case atStart => exact ⟨0, by omega, rfl, rfl, fun i hi => by omega⟩
    case round =>
      obtain ⟨k, hk, rfl, rfl, hno⟩ := hrel
      have HNO := hid_of hno
      clear hno
      by_cases hgo : (k : Int) < (m : Int)
      · obtain ⟨b2, off2, rfl, hc2⟩ := HJ.out.at (by omega)
        have d5 := hc2 k (by omega)
        clear hc2
        have HIT : Hid ((0 ≤ zAt b k ∧ zAt b k ≤ 4096) → ∀ j, j < k + 1 → 0 ≤ zAt b j ∧ zAt b j ≤ 4096) := fun hb i hi => by
          by_cases e : i = k
          · subst e; exact hb
          · exact HNO.out i (by omega)
        have MISS : Hid (¬ (0 ≤ zAt b k ∧ zAt b k ≤ 4096) → ¬ BndOk b m m) := fun hb t => hb (t.2 k (by omega))
        generalize zAt b k = x at d5 HIT MISS
        clear HJ
        by_cases hx : 0 ≤ x
        · by_cases hy : x ≤ 4096
          · have P := hid_of (HIT.out ⟨hx, hy⟩)
            clear HIT MISS
            go_wp2_with (go_at_call 81; refine (demand_ok _ _).mono ?_; rintro e w' ⟨rfl, rfl⟩)
            go_roundw
            case rel => exact ⟨k + 1, by omega, by go_num, by trivial, P.out⟩
            case measure => simp [intOf]; omega
          · have P := hid_of (MISS.out (fun t => hy t.2))
            clear HIT MISS
            go_wp2_with (go_at_call 81; refine (demand_no _ _).mono ?_; rintro e w' ⟨rfl, rfl⟩)
            exact ⟨rfl, KW, .inr ⟨P.out, rfl⟩⟩
        · have P := hid_of (MISS.out (fun t => hx t.1))
          clear HIT MISS
          go_wp2_with (go_at_call 81; refine (demand_no _ _).mono ?_; rintro e w' ⟨rfl, rfl⟩)
          exact ⟨rfl, KW, .inr ⟨P.out, rfl⟩⟩
      · obtain rfl : k = m := by omega
        go_wp2
        exact bodyPost_end (v := .tuple #[]) (by simp [results, Tryd.results105]) rfl ⟨KW, .inl ⟨⟨rfl, HNO.out⟩, rfl⟩⟩
  · have q : ((m : Int) == (N : Int)) = false := by simp; omega
    go_enter Tryd.func105, Tryd.ntmps105
    go_wp2_with (go_at_call 81; refine (demand_no _ _).mono ?_; rintro e w' ⟨rfl, rfl⟩)
    exact ⟨rfl, KW, .inr ⟨fun t => hmn t.1, rfl⟩⟩
end Go.Proofs.YtpdppjngbbkbbaaDoor

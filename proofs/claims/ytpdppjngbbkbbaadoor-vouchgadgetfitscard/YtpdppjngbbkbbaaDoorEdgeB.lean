/- Rows of edges; Check, in the program and in the document. -/
import Derived.Test.YtpdppjngbbkbbaaDoorEdgeA
namespace Go.Proofs.YtpdppjngbbkbbaaDoor
open Go.RowKit

/-- The edge at a place. -/
def edAt (es : List Ed) (i : Nat) : Ed := es.getD i ⟨0, 0, 0, 0⟩

/-- A row of edges: four cells each. -/
structure ERow (w : World) (ao : Option Addr) (n cap : Nat) (es : List Ed) : Prop where
  len : n = es.length
  room : n ≤ cap
  most : cap ≤ maxLen
  cell : 0 < n → ∃ b off, ao = some ⟨b, off, none⟩ ∧ ∀ i, i < n → w.cell? ⟨b, off + i * 4, none⟩ = some (.int .i64 (edAt es i).f) ∧ w.cell? ⟨b, off + i * 4 + 1, none⟩ = some (.int .i64 (edAt es i).t) ∧ w.cell? ⟨b, off + i * 4 + 2, none⟩ = some (.int .i64 (edAt es i).c) ∧ w.cell? ⟨b, off + i * 4 + 3, none⟩ = some (.int .i64 (edAt es i).k)

theorem lt_cell {w : World} {p : Addr} {v : Value} (h : w.cell? p = some v) : p.block < w.heap.size := by
  simp only [World.cell?] at h
  by_cases hlt : p.block < w.heap.size
  · exact hlt
  · rw [Array.getElem?_eq_none (by omega)] at h
    simp at h

theorem ERow.kept {w w' : World} {ao : Option Addr} {n cap : Nat} {es : List Ed} (h : ERow w ao n cap es) (k : Kept w w') : ERow w' ao n cap es :=
  ⟨h.len, h.room, h.most, fun hn => by
    obtain ⟨b, off, e, hc⟩ := h.cell hn
    exact ⟨b, off, e, fun i hi => ⟨k.cell (hc i hi).1, k.cell (hc i hi).2.1, k.cell (hc i hi).2.2.1, k.cell (hc i hi).2.2.2⟩⟩⟩

/-- The first wrong edge of the first k: its code and place. -/
def faultTo (nodes : Int) (es : List Ed) : Nat → Int × Int
  | 0 => (0, 0)
  | k + 1 => if (faultTo nodes es k).1 ≠ 0 then faultTo nodes es k else if badOf nodes (edAt es k) ≠ 0 then (badOf nodes (edAt es k), (k : Int)) else (0, 0)

/-- What is wrong with a graph. -/
def faultOf (nodes : Int) (es : List Ed) : Int × Int :=
  if nodes < 0 ∨ 1024 < nodes ∨ 4096 < es.length then (3, 0) else faultTo nodes es es.length

theorem fault_stop (nodes : Int) (es : List Ed) (k : Nat) (hk : (faultTo nodes es k).1 ≠ 0) (m : Nat) : faultTo nodes es (k + m) = faultTo nodes es k := by
  induction m with
  | zero => rfl
  | succ m ih =>
    have e : faultTo nodes es (k + (m + 1)) = if (faultTo nodes es (k + m)).1 ≠ 0 then faultTo nodes es (k + m) else if badOf nodes (edAt es (k + m)) ≠ 0 then (badOf nodes (edAt es (k + m)), ((k + m : Nat) : Int)) else (0, 0) := rfl
    rw [e, ih, if_pos hk]

theorem fault_clean (nodes : Int) (es : List Ed) (k : Nat) (hk : (faultTo nodes es k).1 = 0) : faultTo nodes es k = (0, 0) := by
  induction k with
  | zero => rfl
  | succ k ih =>
    unfold faultTo at hk ⊢
    split
    · rename_i c; rw [if_pos c] at hk; exact absurd hk c
    · rename_i c
      rw [if_neg c] at hk
      split
      · rename_i d; rw [if_pos d] at hk; exact absurd hk d
      · rfl

theorem fault_hit (nodes : Int) (es : List Ed) (k : Nat) (h0 : faultTo nodes es k = (0, 0)) (hb : badOf nodes (edAt es k) ≠ 0) (hk : k < es.length) : faultTo nodes es es.length = (badOf nodes (edAt es k), (k : Int)) := by
  have e : faultTo nodes es (k + 1) = (badOf nodes (edAt es k), (k : Int)) := by
    unfold faultTo
    rw [h0, if_neg (by simp), if_pos hb]
  have := fault_stop nodes es (k + 1) (by rw [e]; exact hb) (es.length - (k + 1))
  rw [show k + 1 + (es.length - (k + 1)) = es.length by omega] at this
  rw [this, e]

theorem fault_pass (nodes : Int) (es : List Ed) (k : Nat) (h0 : faultTo nodes es k = (0, 0)) (hb : badOf nodes (edAt es k) = 0) : faultTo nodes es (k + 1) = (0, 0) := by
  unfold faultTo
  rw [h0, if_neg (by simp), if_neg (by simpa using hb)]

set_option maxRecDepth 100000 in
set_option maxHeartbeats 2000000 in
theorem check_calls (nodes : Int) (ao : Option Addr) (n cap : Nat) (es : List Ed) (w : World) (h : ERow w ao n cap es) (c a : Int) (hf : Hid (faultOf nodes es = (c, a))) :
    Calls Tryd.prog 95 #[.agg #[.int .i64 nodes, .slice ao n cap]] w fun v w' => v = .returned (.agg #[.int .i64 c, .int .i64 a]) ∧ Kept w w' := by
  have hl1 : n ≤ es.length := Nat.le_of_eq h.len
  have hl2 : es.length ≤ n := Nat.le_of_eq h.len.symm
  have hr := h.room
  have hm := h.most
  unfold maxLen at hm
  have KW : Kept w ((w.alloc (Obj.cells #[.int .i64 nodes, .slice ao n cap] 24)).alloc (Obj.cells #[.int .i64 0, .int .i64 0] 126)) := ((Kept.refl w).alloc _).alloc _
  by_cases hs : nodes < 0 ∨ 1024 < nodes ∨ 4096 < es.length
  · obtain ⟨rfl, rfl⟩ : c = 3 ∧ a = 0 := by
      have := hf.out
      unfold faultOf at this
      rw [if_pos hs] at this
      simp only [Prod.mk.injEq] at this
      exact ⟨this.1.symm, this.2.symm⟩
    have hsz : (4096 : Int) < (n : Int) ∨ nodes < 0 ∨ 1024 < nodes := by omega
    clear hf hs
    go_enter Tryd.func95, Tryd.ntmps95
    go_wp2_with fail
    all_goals go_returns
    all_goals exact ⟨rfl, by first | exact KW | exact ((Kept.refl w).alloc _).alloc _⟩
  · have hs1 : ¬ nodes < 0 := by omega
    have hs2 : ¬ 1024 < nodes := by omega
    have hs3 : ¬ (4096 : Int) < (n : Int) := by omega
    have HF : Hid (faultTo nodes es es.length = (c, a)) := by
      have := hf.out
      unfold faultOf at this
      rw [if_neg hs] at this
      exact this
    have HR := hid_of h
    clear hf hs h
    go_enter Tryd.func95, Tryd.ntmps95
    go_wp2_with fail
    have w0 : ((w.alloc (Obj.cells #[.int .i64 nodes, .slice ao n cap] 24)).alloc (Obj.cells #[.int .i64 0, .int .i64 0] 126)).cell? ⟨w.heap.size, 0, none⟩ = some (.int .i64 nodes) := by simp [go_sem]
    have w2 : ((w.alloc (Obj.cells #[.int .i64 nodes, .slice ao n cap] 24)).alloc (Obj.cells #[.int .i64 0, .int .i64 0] 126)).cell? ⟨w.heap.size + 1, 0, none⟩ = some (.int .i64 0) := by simp [go_sem]
    have w3 : ((w.alloc (Obj.cells #[.int .i64 nodes, .slice ao n cap] 24)).alloc (Obj.cells #[.int .i64 0, .int .i64 0] 126)).cell? ⟨w.heap.size + 1, 1, none⟩ = some (.int .i64 0) := by simp [go_sem]
    have w4 : ((w.alloc (Obj.cells #[.int .i64 nodes, .slice ao n cap] 24)).alloc (Obj.cells #[.int .i64 0, .int .i64 0] 126)).frozen? ⟨w.heap.size + 1, 0, none⟩ = false := by simp [go_sem]
    have w5 : ((w.alloc (Obj.cells #[.int .i64 nodes, .slice ao n cap] 24)).alloc (Obj.cells #[.int .i64 0, .int .i64 0] 126)).frozen? ⟨w.heap.size + 1, 1, none⟩ = false := by simp [go_sem]
    generalize (w.alloc (Obj.cells #[.int .i64 nodes, .slice ao n cap] 24)).alloc (Obj.cells #[.int .i64 0, .int .i64 0] 126) = W1 at KW w0 w2 w3 w4 w5 ⊢
    have HR1 := hid_of (HR.out.kept KW)
    clear HR
    go_loopw [24] (fun i wr => ∃ (k : Nat), k ≤ n ∧ i = .int .i64 k ∧ Kept W1 wr ∧ faultTo nodes es k = (0, 0)) (fun i _ => n - (intOf i).toNat)
    case atStart => exact ⟨0, by omega, rfl, Kept.refl _, rfl⟩
    case round =>
      obtain ⟨k, hk, rfl, K, hno⟩ := hrel
      have HNO := hid_of hno
      clear hno
      by_cases hgo : (k : Int) < (n : Int)
      · obtain ⟨b, off, rfl, hc⟩ := HR1.out.cell (by omega)
        obtain ⟨c1, c2, c3, c4⟩ := hc k (by omega)
        have d1 := K.cell c1
        have d2 := K.cell c2
        have d3 := K.cell c3
        have d4 := K.cell c4
        clear hc c1 c2 c3 c4
        have C := hid_of (fun w => wrong_calls nodes (edAt es k) w)
        have HIT : Hid (badOf nodes (edAt es k) ≠ 0 → (c, a) = (badOf nodes (edAt es k), (k : Int))) := fun hb => by rw [← HF.out]; exact fault_hit nodes es k HNO.out hb (by omega)
        have PASS : Hid (badOf nodes (edAt es k) = 0 → faultTo nodes es (k + 1) = (0, 0)) := fun hb => fault_pass nodes es k HNO.out hb
        generalize edAt es k = e at d1 d2 d3 d4 C HIT PASS
        obtain ⟨ef, et, ec, ek⟩ := e
        generalize badOf nodes ⟨ef, et, ec, ek⟩ = bd at C HIT PASS
        have KE := K.alloc (Obj.cells #[.int .i64 ef, .int .i64 et, .int .i64 ec, .int .i64 ek] 86)
        clear HR1
        simp only at d1 d2 d3 d4
        have r0 := K.cell w0
        have r2 := K.cell w2
        have r3 := K.cell w3
        have r4 := (Below.frozen (p := ⟨w.heap.size + 1, 0, none⟩) K (lt_cell w2)).trans w4
        have r5 := (Below.frozen (p := ⟨w.heap.size + 1, 1, none⟩) K (lt_cell w3)).trans w5
        have l0 := lt_cell r2
        simp only at l0
        have e0 := KE.cell w0
        have n0 : w.heap.size ≠ wr.heap.size := by omega
        have n1 : w.heap.size + 1 ≠ wr.heap.size := by omega
        by_cases hb : bd = 0
        · have P := hid_of (PASS.out hb)
          have q : (bd != 0) = false := by simp [hb]
          clear HIT PASS hb
          go_wp2_with (go_at_call 109; refine (C.out _).mono ?_; rintro v wb ⟨rfl, K2⟩)
          have KN := hid_of (KE.trans K2)
          clear K2 KE K r0 r2 r3 r4 r5 l0 n0 n1 e0
          go_roundw
          case rel => exact ⟨k + 1, by omega, by go_num, KN.out, P.out⟩
          case measure => simp [intOf]; omega
        · have q : (bd != 0) = true := by simp [hb]
          obtain ⟨rfl, rfl⟩ : c = bd ∧ a = (k : Int) := by simpa using HIT.out hb
          clear HIT PASS hb
          go_wp2_with (go_at_call 109; refine (C.out _).mono ?_; rintro v wb ⟨rfl, K2⟩; have KN := KE.trans K2; clear K2 KE K r0 r2 r3 r4 r5 l0 n0 n1 e0 d1 d2 d3 d4; have s0 := KN.cell w2; have s1 := KN.cell w3; have s2 := (Below.frozen (p := ⟨w.heap.size + 1, 0, none⟩) KN (lt_cell w2)).trans w4; have s3 := (Below.frozen (p := ⟨w.heap.size + 1, 1, none⟩) KN (lt_cell w3)).trans w5; obtain ⟨t1, t2, t3, t4⟩ := box2w s0 s1 (.int .i64 c) (.int .i64 (k : Int)))
          refine bodyPost_ret (v := .agg #[.int .i64 c, .int .i64 (k : Int)]) (by simp [results, Tryd.results95, go_sem, t3, t4]) rfl ⟨rfl, ?_⟩
          exact ((KW.trans KN).setCell (by simp) _).setCell (by simp) _
      · obtain rfl : k = n := by omega
        obtain ⟨rfl, rfl⟩ : c = 0 ∧ a = 0 := by
          have h1 := HF.out
          rw [show es.length = k by omega, HNO.out] at h1
          simpa using h1.symm
        have s0 := K.cell w2
        have s1 := K.cell w3
        have s2 := (Below.frozen (p := ⟨w.heap.size + 1, 0, none⟩) K (lt_cell w2)).trans w4
        have s3 := (Below.frozen (p := ⟨w.heap.size + 1, 1, none⟩) K (lt_cell w3)).trans w5
        obtain ⟨t1, t2, t3, t4⟩ := box2w s0 s1 (.int .i64 0) (.int .i64 0)
        clear HF HNO HR1
        go_wp2
        refine bodyPost_ret (v := .agg #[.int .i64 0, .int .i64 0]) (by simp [results, Tryd.results95, go_sem, t3, t4]) rfl ⟨rfl, ?_⟩
        exact ((KW.trans K).setCell (by simp) _).setCell (by simp) _
end Go.Proofs.YtpdppjngbbkbbaaDoor

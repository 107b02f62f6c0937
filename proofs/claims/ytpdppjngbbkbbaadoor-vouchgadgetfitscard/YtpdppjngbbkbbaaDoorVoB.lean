/- What is demanded: demand, must, codeOf; what is caught: looked. -/
import Derived.Test.YtpdppjngbbkbbaaDoorVoA
import Derived.Defers
import Derived.Recover
import Derived.Laws.Pointers
import Derived.Deep.RegionHeld3
import Derived.Deep.OwnRows
namespace Go.Proofs.YtpdppjngbbkbbaaDoor
open Go.RowKit

/-- A row of bools. -/
structure BRow (w : World) (ao : Option Addr) (n cap : Nat) (bs : List Bool) : Prop where
  len : n = bs.length
  room : n ≤ cap
  most : cap ≤ maxLen
  cell : 0 < n → ∃ b off, ao = some ⟨b, off, none⟩ ∧ ∀ i, i < n → w.cell? ⟨b, off + i, none⟩ = some (.bool (bs.getD i false))

theorem BRow.kept {w w' : World} {ao : Option Addr} {n cap : Nat} {bs : List Bool} (h : BRow w ao n cap bs) (k : Kept w w') : BRow w' ao n cap bs :=
  ⟨h.len, h.room, h.most, fun hn => by
    obtain ⟨b, off, e, hc⟩ := h.cell hn
    exact ⟨b, off, e, fun i hi => k.cell (hc i hi)⟩⟩

/-- A list of int64 as long as its block, its numbers by the index. -/
def LongAt (w : World) (g n : Nat) (f : Nat → Int) : Prop := w.rowIs g 2 n (fun i => .int .i64 (f i))
theorem LongAt.kept {w w' : World} {g n : Nat} {f : Nat → Int} (h : LongAt w g n f) (K : Kept w w') : LongAt w' g n f := h.of_block (K.block g h.lt)
theorem LongAt.cell {w : World} {g n : Nat} {f : Nat → Int} (h : LongAt w g n f) {i : Nat} (hi : i < n) : w.cell? ⟨g, i, none⟩ = some (.int .i64 (f i)) := World.rowIs.cell h hi
theorem LongAt.set {w : World} {g n : Nat} {f : Nat → Int} (h : LongAt w g n f) (i : Nat) (z : Int) : LongAt (w.setCell ⟨g, i, none⟩ (.int .i64 z)) g n (fun j => if j = i then z else f j) :=
  (World.rowIs.set h i (.int .i64 z)).congr (fun j _ => by by_cases e : j = i <;> simp [e])

set_option maxHeartbeats 400000 in
theorem demand_ok (c : Int) (w : World) : Calls Tryd.prog 81 #[.bool true, .int .i64 c] w fun e w' => e = .returned (.tuple #[]) ∧ w = w' := by
  have hnot : ∀ (x : Bool) (w : World), (Op.unary .not (.bool x)).run Tryd.prog w = .ok (.bool (!x)) w := fun _ _ => rfl
  go_enter Tryd.func81, Tryd.ntmps81
  go_wp2
  exact bodyPost_end (v := .tuple #[]) (by simp [results, Tryd.results81]) rfl ⟨rfl, rfl⟩

set_option maxHeartbeats 400000 in
theorem demand_no (c : Int) (w : World) : Calls Tryd.prog 81 #[.bool false, .int .i64 c] w fun e w' => e = .panicked [{ v := .iface 140 (.agg #[.int .i64 c]), recovered := false }] ∧ w = w' := by
  have hnot : ∀ (x : Bool) (w : World), (Op.unary .not (.bool x)).run Tryd.prog w = .ok (.bool (!x)) w := fun _ _ => rfl
  go_enter Tryd.func81, Tryd.ntmps81
  go_wp2
  exact ⟨rfl, rfl, rfl⟩

set_option maxHeartbeats 400000 in
theorem must_ok (w : World) : Calls Tryd.prog 51 #[.bool true] w fun e w' => e = .returned (.tuple #[]) ∧ w = w' := by
  go_enter Tryd.func51, Tryd.ntmps51
  go_wp2_with (go_at_call 81; refine (demand_ok _ _).mono ?_; rintro e w' ⟨rfl, rfl⟩)
  exact bodyPost_end (v := .tuple #[]) (by simp [results, Tryd.results51]) rfl ⟨rfl, rfl⟩

set_option maxHeartbeats 400000 in
theorem must_no (w : World) : Calls Tryd.prog 51 #[.bool false] w fun e w' => e = .panicked [{ v := .iface 140 (.agg #[.int .i64 221]), recovered := false }] ∧ w = w' := by
  go_enter Tryd.func51, Tryd.ntmps51
  go_wp2_with (go_at_call 81; refine (demand_no _ _).mono ?_; rintro e w' ⟨rfl, rfl⟩)
  exact ⟨rfl, rfl, rfl⟩

set_option maxHeartbeats 400000 in
theorem codeOfP_calls (c : Int) (w : World) :
    Calls Tryd.prog 94 #[.iface 140 (.agg #[.int .i64 c])] w fun e w' => e = .returned (.int .i64 c) ∧ Kept w w' := by
  have hnot : ∀ (x : Bool) (w : World), (Op.unary .not (.bool x)).run Tryd.prog w = .ok (.bool (!x)) w := fun _ _ => rfl
  have ht : ∀ w : World, (Instr.typeAssert (.iface 140 (.agg #[.int .i64 c])) 20 140 true).run Tryd.prog w = .ok (.tuple #[.agg #[.int .i64 c], .bool true]) w := fun _ => by kernel_rfl
  go_enter Tryd.func94, Tryd.ntmps94
  go_wp2
  go_ret
  exact ⟨rfl, (Kept.refl _).alloc _⟩

set_option maxRecDepth 100000 in
set_option maxHeartbeats 400000 in
theorem catchP_panicking (be : Nat) (c e0 : Int) (older : List PanicEntry) (w : World) (h1 : w.cell? ⟨be, 0, none⟩ = some (.int .i64 e0)) (f1 : w.frozen? ⟨be, 0, none⟩ = false) :
    CallsD Tryd.prog 93 #[.pointer (some ⟨be, 0, none⟩)] (.panicking ({ v := .iface 140 (.agg #[.int .i64 c]), recovered := false } :: older)) w fun e u' w' =>
      e = .returned (.tuple #[]) ∧ u' = .panicking ({ v := .iface 140 (.agg #[.int .i64 c]), recovered := true } :: older) ∧ ∃ wx, Kept w wx ∧ w' = wx.setCell ⟨be, 0, none⟩ (.int .i64 c) := by
  refine callsD_of_wpS Tryd.func93 rfl fun c₀ cs hu => ?_
  apply wpS_seq
  apply wpS_region
  simp [wpOpsS, go_sem, recoverD, hu, Tryd.ntmps93, Exit.thenS]
  have et : ∀ x : Value, (#[Value.pointer (some ⟨be, 0, none⟩)] ++ ((Array.replicate 6 undef).setIfInBounds 1 x).setIfInBounds 0 x) = #[Value.pointer (some ⟨be, 0, none⟩), x, x, undef, undef, undef, undef] := fun _ => rfl
  rw [et]
  refine wpS_of_wp ?_
  go_wp2_with fail
  refine (codeOfP_calls c _).mono ?_
  rintro e wx ⟨rfl, K⟩
  have c1 := K.cell h1
  have g1 : wx.frozen? ⟨be, 0, none⟩ = false := (Below.frozen (p := ⟨be, 0, none⟩) K (lt_cell h1)).trans f1
  go_wp2
  simp only [bodyPostS]
  exact ⟨trivial, _, rfl, .tuple #[], by simp [results, Tryd.results93], rfl, rfl, wx, K, rfl⟩

theorem catchP_idle (be : Nat) (w : World) :
    CallsD Tryd.prog 93 #[.pointer (some ⟨be, 0, none⟩)] .returning w fun e u' w' => e = .returned (.tuple #[]) ∧ u' = .returning ∧ w' = w := by
  refine callsD_of_wpS Tryd.func93 rfl fun c₀ cs hu => ?_
  apply wpS_seq
  apply wpS_region
  simp [wpOpsS, go_sem, recoverD, hu, Tryd.ntmps93, Exit.thenS]
  have et : ∀ x : Value, (#[Value.pointer (some ⟨be, 0, none⟩)] ++ ((Array.replicate 6 undef).setIfInBounds 1 x).setIfInBounds 0 x) = #[Value.pointer (some ⟨be, 0, none⟩), x, x, undef, undef, undef, undef] := fun _ => rfl
  rw [et]
  refine wpS_of_wp ?_
  go_wp2
  cases c₀
  simp_all [bodyPostS, results, Tryd.results93]

/-- The boxes of looked. -/
def lookW (w : World) (g : Value) (s : Value) : World := (w.alloc (Obj.cells #[g, s] 24)).alloc (Obj.cells #[Value.int .i64 0] 30)
theorem lookW_kept (w : World) (g s : Value) : Kept w (lookW w g s) := ((Kept.refl _).alloc _).alloc _
theorem lookW_size (w : World) (g s : Value) : (lookW w g s).heap.size = w.heap.size + 2 := by simp [lookW]
theorem lookW_cell (w : World) (g s : Value) : (lookW w g s).cell? ⟨w.heap.size + 1, 0, none⟩ = some (.int .i64 0) := by simp [lookW, go_sem]
theorem lookW_frozen (w : World) (g s : Value) : (lookW w g s).frozen? ⟨w.heap.size + 1, 0, none⟩ = false := by simp [lookW, go_sem]

set_option maxRecDepth 100000 in
set_option maxHeartbeats 1000000 in
/-- A graph that isn't right is told so. -/
theorem looked_bad (nodes : Int) (ao : Option Addr) (n cap : Nat) (es : List Ed) (w : World) (h : ERow w ao n cap es) (c a : Int) (hf : Hid (faultOf nodes es = (c, a))) (hc : c ≠ 0) (f : Value) :
    Calls Tryd.prog 47 #[.agg #[.int .i64 nodes, .slice ao n cap], f] w fun e w' => e = .returned (.int .i64 c) ∧ Kept w w' := by
  have hmf : ∀ (fn : Fn) (first cap : Array Value) (w : World), (Instr.makeFunc fn first cap).run Tryd.prog w = .ok (.func fn first cap) w := fun _ _ _ _ => rfl
  have q : (c == 0) = false := by simpa using hc
  have C := hid_of (check_calls nodes ao n cap es (lookW w (.int .i64 nodes) (.slice ao n cap)) (h.kept (lookW_kept _ _ _)) c a hf)
  have hfl : ∀ (w : World), (Instr.field 126 (.agg #[.int .i64 c, .int .i64 a]) 0).run Tryd.prog w = .ok (.int .i64 c) w := fun _ => rfl
  clear h hf hc
  go_enter_defers Tryd.func47, Tryd.ntmps47
  go_wp2_with fail
  refine C.out.mono ?_
  rintro e wa ⟨rfl, K1⟩
  have e1 := K1.cell (lookW_cell w _ _)
  have f1 : wa.frozen? ⟨w.heap.size + 1, 0, none⟩ = false := (Below.frozen (p := ⟨w.heap.size + 1, 0, none⟩) K1 (lt_cell (lookW_cell w _ _))).trans (lookW_frozen w _ _)
  go_wp2_with fail
  refine (demand_no c _).mono ?_
  rintro e wc ⟨rfl, rfl⟩
  go_wp2
  refine leaves_cons (f := 93) (args := #[.pointer (some ⟨w.heap.size + 1, 0, none⟩)]) (by simp) (by simp [go_sem]) ?_
  refine (catchP_panicking (w.heap.size + 1) c 0 [] _ e1 f1).mono ?_
  rintro e u' w'' ⟨rfl, rfl, wx, K5, rfl⟩
  have m2 := K5.cell e1
  have q1 := World.cell?_setCell_same wx ⟨w.heap.size + 1, 0, none⟩ (.int .i64 c) m2
  have KF : Kept w (wx.setCell ⟨w.heap.size + 1, 0, none⟩ (.int .i64 c)) := (((lookW_kept w _ _).trans K1).trans K5).setCell (Nat.le_succ _) _
  simp [Leaves, settle, results, Tryd.results47, go_sem, q1]
  exact KF

set_option maxRecDepth 100000 in
set_option maxHeartbeats 1000000 in
/-- The look comes to its end. -/
theorem looked_ok (nodes : Int) (ao : Option Addr) (n cap : Nat) (es : List Ed) (w : World) (h : ERow w ao n cap es) (hf : Hid (faultOf nodes es = (0, 0))) (cl : Nat) (caps : Array Value) (hcl : ∀ w, Sem.run Tryd.prog (callFunc cl caps) w = .ok (.enter cl caps) w) (F : Nat → Prop) (R : World → Prop) (hF : ∀ k, F k → k < w.heap.size)
    (HC : ∀ w1, Kept w w1 → Calls Tryd.prog cl caps w1 fun e w2 => e = .returned (.tuple #[]) ∧ R w2 ∧ Ch F w1 w2) :
    Calls Tryd.prog 47 #[.agg #[.int .i64 nodes, .slice ao n cap], .func (.func cl) #[] caps] w fun e w' => e = .returned (.int .i64 0) ∧ ∃ w2, R w2 ∧ Ch F w w2 ∧ Ch (fun k => k = w.heap.size + 1) w2 w' := by
  have hmf : ∀ (fn : Fn) (first cap : Array Value) (w : World), (Instr.makeFunc fn first cap).run Tryd.prog w = .ok (.func fn first cap) w := fun _ _ _ _ => rfl
  have C := hid_of (check_calls nodes ao n cap es (lookW w (.int .i64 nodes) (.slice ao n cap)) (h.kept (lookW_kept _ _ _)) 0 0 hf)
  have hfl : ∀ (w : World), (Instr.field 126 (.agg #[.int .i64 0, .int .i64 0]) 0).run Tryd.prog w = .ok (.int .i64 0) w := fun _ => rfl
  have hnF : ¬ F (w.heap.size + 1) := fun t => by have := hF _ t; omega
  have HCH := hid_of HC
  clear h hf HC
  go_enter_defers Tryd.func47, Tryd.ntmps47
  go_wp2_with fail
  refine C.out.mono ?_
  rintro e wa ⟨rfl, K1⟩
  have e1 := K1.cell (lookW_cell w _ _)
  have f1 : wa.frozen? ⟨w.heap.size + 1, 0, none⟩ = false := (Below.frozen (p := ⟨w.heap.size + 1, 0, none⟩) K1 (lt_cell (lookW_cell w _ _))).trans (lookW_frozen w _ _)
  go_wp2_with fail
  refine (demand_ok 0 _).mono ?_
  rintro e wc ⟨rfl, rfl⟩
  go_wp2_with fail
  refine (HCH.out wa ((lookW_kept w _ _).trans K1)).mono ?_
  rintro e w2 ⟨rfl, hR, hCh⟩
  have e2 := hCh.cell e1 hnF
  have f2 := (hCh.frozen (o := 0) (lt_cell e1) hnF).trans f1
  go_wp2
  refine leaves_cons (f := 93) (args := #[.pointer (some ⟨w.heap.size + 1, 0, none⟩)]) (by simp) (by simp [go_sem]) ?_
  refine (catchP_idle (w.heap.size + 1) _).mono ?_
  rintro e u' w'' ⟨rfl, rfl, rfl⟩
  have q1 := World.cell?_setCell_same w2 ⟨w.heap.size + 1, 0, none⟩ (.int .i64 0) e2
  refine ⟨.int .i64 0, by simp [results, Tryd.results47, go_sem, q1], rfl, w2, hR, ?_, ?_⟩
  · exact (Ch.of_kept ((lookW_kept w _ _).trans K1)).trans hCh
  · exact (Ch.refl (fun k => k = w.heap.size + 1) w2).setCell (p := ⟨w.heap.size + 1, 0, none⟩) rfl _

set_option maxRecDepth 100000 in
set_option maxHeartbeats 1000000 in
/-- The look gives up. -/
theorem looked_no (nodes : Int) (ao : Option Addr) (n cap : Nat) (es : List Ed) (w : World) (h : ERow w ao n cap es) (hf : Hid (faultOf nodes es = (0, 0))) (cl : Nat) (caps : Array Value) (hcl : ∀ w, Sem.run Tryd.prog (callFunc cl caps) w = .ok (.enter cl caps) w) (d : Int)
    (HC : ∀ w1, Kept w w1 → Calls Tryd.prog cl caps w1 fun e w2 => e = .panicked [{ v := .iface 140 (.agg #[.int .i64 d]), recovered := false }] ∧ Kept w1 w2) :
    Calls Tryd.prog 47 #[.agg #[.int .i64 nodes, .slice ao n cap], .func (.func cl) #[] caps] w fun e w' => e = .returned (.int .i64 d) ∧ Kept w w' := by
  have hmf : ∀ (fn : Fn) (first cap : Array Value) (w : World), (Instr.makeFunc fn first cap).run Tryd.prog w = .ok (.func fn first cap) w := fun _ _ _ _ => rfl
  have C := hid_of (check_calls nodes ao n cap es (lookW w (.int .i64 nodes) (.slice ao n cap)) (h.kept (lookW_kept _ _ _)) 0 0 hf)
  have hfl : ∀ (w : World), (Instr.field 126 (.agg #[.int .i64 0, .int .i64 0]) 0).run Tryd.prog w = .ok (.int .i64 0) w := fun _ => rfl
  have HCH := hid_of HC
  clear h hf HC
  go_enter_defers Tryd.func47, Tryd.ntmps47
  go_wp2_with fail
  refine C.out.mono ?_
  rintro e wa ⟨rfl, K1⟩
  have e1 := K1.cell (lookW_cell w _ _)
  have f1 : wa.frozen? ⟨w.heap.size + 1, 0, none⟩ = false := (Below.frozen (p := ⟨w.heap.size + 1, 0, none⟩) K1 (lt_cell (lookW_cell w _ _))).trans (lookW_frozen w _ _)
  go_wp2_with fail
  refine (demand_ok 0 _).mono ?_
  rintro e wc ⟨rfl, rfl⟩
  go_wp2_with fail
  refine (HCH.out wa ((lookW_kept w _ _).trans K1)).mono ?_
  rintro e w2 ⟨rfl, K2⟩
  have e2 := K2.cell e1
  have f2 := (Below.frozen (p := ⟨w.heap.size + 1, 0, none⟩) K2 (lt_cell e1)).trans f1
  go_wp2
  refine leaves_cons (f := 93) (args := #[.pointer (some ⟨w.heap.size + 1, 0, none⟩)]) (by simp) (by simp [go_sem]) ?_
  refine (catchP_panicking (w.heap.size + 1) d 0 [] _ e2 f2).mono ?_
  rintro e u' w'' ⟨rfl, rfl, wx, K5, rfl⟩
  have m2 := K5.cell e2
  have q1 := World.cell?_setCell_same wx ⟨w.heap.size + 1, 0, none⟩ (.int .i64 d) m2
  have KF : Kept w (wx.setCell ⟨w.heap.size + 1, 0, none⟩ (.int .i64 d)) := ((((lookW_kept w _ _).trans K1).trans K2).trans K5).setCell (Nat.le_succ _) _
  simp [Leaves, settle, results, Tryd.results47, go_sem, q1]
  exact KF
end Go.Proofs.YtpdppjngbbkbbaaDoor

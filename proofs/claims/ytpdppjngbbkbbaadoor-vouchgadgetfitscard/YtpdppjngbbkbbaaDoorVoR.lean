/- mustProve, whatever its bounds are. -/
import Derived.Test.YtpdppjngbbkbbaaDoorVoQ
namespace Go.Proofs.YtpdppjngbbkbbaaDoor
open Go.RowKit

/-- Within a bound. -/
def Within (p bd : Int) : Prop := p ≤ bd

set_option maxRecDepth 100000 in
set_option linter.unusedSimpArgs false in
set_option maxHeartbeats 2000000 in
theorem atMost_calls (wb c1 c2 c3 N : Nat) (pr : Nat → Nat → Int) (u v : Nat) (hu : u < N) (hv : v < N) (bd : Int) (w0 w : World) (hb : w.cell? ⟨wb, 0, none⟩ = some (.func (.func 111) #[] #[.pointer (some ⟨c1, 0, none⟩), .pointer (some ⟨c2, 0, none⟩), .pointer (some ⟨c3, 0, none⟩)])) (HW : Weighs w0 #[.pointer (some ⟨c1, 0, none⟩), .pointer (some ⟨c2, 0, none⟩), .pointer (some ⟨c3, 0, none⟩)] N pr) (K : Kept w0 w) :
    Calls Tryd.prog 103 #[.int .i64 (u : Int), .int .i64 (v : Int), .int .i64 bd, .pointer (some ⟨wb, 0, none⟩)] w fun e w' => Kept w w' ∧ ((Within (pr u v) bd ∧ e = .returned (.tuple #[])) ∨ (¬ Within (pr u v) bd ∧ e = .panicked [{ v := .iface 140 (.agg #[.int .i64 221]), recovered := false }])) := by
  have C := hid_of (fun w1 (K1 : Kept w w1) => HW w1 (K.trans K1) u v hu hv)
  clear HW K
  obtain ⟨p, hp⟩ : ∃ p, pr u v = p := ⟨_, rfl⟩
  rw [hp] at C ⊢
  clear hp
  by_cases h : p ≤ bd
  · have q : decide (p ≤ bd) = true := decide_eq_true h
    go_enter Tryd.func103, Tryd.ntmps103
    go_wp2_with fail
    refine (C.out _ (Kept.refl _)).mono ?_
    rintro e w1 ⟨rfl, K1⟩
    have HK := hid_of K1
    clear K1 C hb
    go_wp2_with (go_at_call 51; refine (must_ok _).mono ?_; rintro e w' ⟨rfl, rfl⟩)
    exact bodyPost_end (v := .tuple #[]) (by simp [results, Tryd.results103]) rfl ⟨HK.out, .inl ⟨h, rfl⟩⟩
  · have q : decide (p ≤ bd) = false := decide_eq_false h
    go_enter Tryd.func103, Tryd.ntmps103
    go_wp2_with fail
    refine (C.out _ (Kept.refl _)).mono ?_
    rintro e w1 ⟨rfl, K1⟩
    have HK := hid_of K1
    clear K1 C hb
    go_wp2_with (go_at_call 51; refine (must_no _).mono ?_; rintro e w' ⟨rfl, rfl⟩)
    exact ⟨rfl, HK.out, .inr ⟨fun t => by unfold Within at t; omega, rfl⟩⟩

/-- What duals must be to prove a cost. -/
def ProveOk (Y : List Int) (my : Nat) (ss : Sets) (ns N : Nat) (P : Prop) (cost : Int) : Prop := WtsOk Y my ss ns N ∧ P ∧ worthOf Y my ss ns = 2 * cost

set_option maxRecDepth 100000 in
set_option linter.unusedSimpArgs false in
set_option maxHeartbeats 4000000 in
theorem prove_calls (N : Nat) (hN : N ≤ 1024) (yo : Option Addr) (my yc : Nat) (Y : List Int) (so : Option Addr) (ns sc : Nat) (ss : Sets) (cost : Int) (hc1 : -4398046511104 ≤ cost) (hc2 : cost ≤ 4398046511104) (bf : Nat) (bcaps : Array Value) (P : Prop) (pr : Nat → Nat → Int) (w : World) (hY : JRow w yo my yc Y) (hS : DRow w so ns sc ss)
    (hcl : ∀ x w, Sem.run Tryd.prog (callFunc bf (#[x] ++ bcaps)) w = .ok (.enter bf (#[x] ++ bcaps)) w)
    (HPW : WtsOk Y my ss ns N → ∀ w1, Kept w w1 → Calls Tryd.prog 102 #[.agg #[.slice yo my yc, .slice so ns sc], .int .i64 (N : Int)] w1 fun e w2 => ∃ c1 c2 c3, e = .returned (.func (.func 111) #[] #[.pointer (some ⟨c1, 0, none⟩), .pointer (some ⟨c2, 0, none⟩), .pointer (some ⟨c3, 0, none⟩)]) ∧ Kept w1 w2 ∧ Weighs w2 #[.pointer (some ⟨c1, 0, none⟩), .pointer (some ⟨c2, 0, none⟩), .pointer (some ⟨c3, 0, none⟩)] N pr)
    (HB : WtsOk Y my ss ns N → ∀ wb w1, Kept w w1 → (∀ u v : Nat, u < N → v < N → ∀ bd w2, Kept w1 w2 → Calls Tryd.prog 103 #[.int .i64 (u : Int), .int .i64 (v : Int), .int .i64 bd, .pointer (some ⟨wb, 0, none⟩)] w2 fun e w3 => Kept w2 w3 ∧ ((Within (pr u v) bd ∧ e = .returned (.tuple #[])) ∨ (¬ Within (pr u v) bd ∧ e = .panicked [{ v := .iface 140 (.agg #[.int .i64 221]), recovered := false }]))) →
      Calls Tryd.prog bf (#[.func (.func 103) #[] #[.pointer (some ⟨wb, 0, none⟩)]] ++ bcaps) w1 fun e w3 => Kept w1 w3 ∧ ((P ∧ e = .returned (.tuple #[])) ∨ (¬ P ∧ e = .panicked [{ v := .iface 140 (.agg #[.int .i64 221]), recovered := false }]))) :
    Calls Tryd.prog 68 #[.agg #[.slice yo my yc, .slice so ns sc], .int .i64 (N : Int), .int .i64 cost, .func (.func bf) #[] bcaps] w fun e w' => Kept w w' ∧ ((ProveOk Y my ss ns N P cost ∧ e = .returned (.tuple #[])) ∨ (¬ ProveOk Y my ss ns N P cost ∧ e = .panicked [{ v := .iface 140 (.agg #[.int .i64 221]), recovered := false }])) := by
  have KW : Kept w (w.alloc (Obj.cells #[.slice yo my yc, .slice so ns sc] 45)) := (Kept.refl w).alloc _
  have w0 : (w.alloc (Obj.cells #[.slice yo my yc, .slice so ns sc] 45)).cell? ⟨w.heap.size, 0, none⟩ = some (.slice yo my yc) := by simp [go_sem]
  have w1 : (w.alloc (Obj.cells #[.slice yo my yc, .slice so ns sc] 45)).cell? ⟨w.heap.size, 1, none⟩ = some (.slice so ns sc) := by simp [go_sem]
  have HY := hid_of hY
  have HS := hid_of hS
  have PW := hid_of HPW
  have BB := hid_of HB
  clear hY hS HPW HB
  go_enter Tryd.func68, Tryd.ntmps68
  go_wp2_with fail
  generalize w.alloc (Obj.cells #[.slice yo my yc, .slice so ns sc] 45) = W1 at KW w0 w1 ⊢
  refine (right_calls N yo my yc Y so ns sc ss W1 (HY.out.kept KW) (HS.out.kept KW)).mono ?_
  rintro e wa ⟨K1, ⟨ok, rfl⟩ | ⟨ok, rfl⟩⟩
  rotate_left
  · have HK := hid_of (KW.trans K1)
    clear KW K1 w0 w1
    go_wp2
    exact ⟨rfl, HK.out, .inr ⟨fun t => ok t.1, rfl⟩⟩
  replace w0 := K1.cell w0
  replace w1 := K1.cell w1
  have HK := hid_of (KW.trans K1)
  have OK := hid_of ok
  clear K1 KW ok
  go_wp2_with fail
  refine (PW.out OK.out wa HK.out).mono ?_
  rintro e wb ⟨c1, c2, c3, rfl, K2, WG⟩
  replace w0 := K2.cell w0
  replace w1 := K2.cell w1
  have HK2 := hid_of (HK.out.trans K2)
  have WGH := hid_of WG
  obtain ⟨xb, hxb⟩ : ∃ xb, wb.heap.size = xb := ⟨_, rfl⟩
  clear K2 HK PW WG
  have hst : (store (⟨xb, 0, none⟩ : Addr) (Value.func (.func 111) #[] #[.pointer (some ⟨c1, 0, none⟩), .pointer (some ⟨c2, 0, none⟩), .pointer (some ⟨c3, 0, none⟩)])).run Tryd.prog (wb.alloc (Obj.cells #[Value.nilFunc] 134)) = .ok () ((wb.alloc (Obj.cells #[Value.nilFunc] 134)).setCell ⟨xb, 0, none⟩ (Value.func (.func 111) #[] #[.pointer (some ⟨c1, 0, none⟩), .pointer (some ⟨c2, 0, none⟩), .pointer (some ⟨c3, 0, none⟩)])) := by
    rw [run_store Tryd.prog _ _ _ _ (by rfl)]
    simp [go_sem, ← hxb]
  go_upto_region 3 with fail
  have K4 : Kept wb (wb.alloc (Obj.cells #[Value.func (.func 111) #[] #[.pointer (some ⟨c1, 0, none⟩), .pointer (some ⟨c2, 0, none⟩), .pointer (some ⟨c3, 0, none⟩)]] 134)) := (Kept.refl wb).alloc _
  have x0 : (wb.alloc (Obj.cells #[Value.func (.func 111) #[] #[.pointer (some ⟨c1, 0, none⟩), .pointer (some ⟨c2, 0, none⟩), .pointer (some ⟨c3, 0, none⟩)]] 134)).cell? ⟨xb, 0, none⟩ = some (Value.func (.func 111) #[] #[.pointer (some ⟨c1, 0, none⟩), .pointer (some ⟨c2, 0, none⟩), .pointer (some ⟨c3, 0, none⟩)]) := by simp [go_sem, ← hxb]
  replace w0 := K4.cell w0
  replace w1 := K4.cell w1
  generalize wb.alloc (Obj.cells #[Value.func (.func 111) #[] #[.pointer (some ⟨c1, 0, none⟩), .pointer (some ⟨c2, 0, none⟩), .pointer (some ⟨c3, 0, none⟩)]] 134) = W4 at K4 x0 w0 w1 ⊢
  have CB := hid_of (BB.out OK.out xb W4 (HK2.out.trans K4) (fun u v hu hv bd w2 K => atMost_calls xb c1 c2 c3 N pr u v hu hv bd wb w2 (K.cell x0) WGH.out (K4.trans K)))
  have HK4 := hid_of (HK2.out.trans K4)
  clear hst hxb K4 x0 BB WGH HK2
  go_wp2_with fail
  refine CB.out.mono ?_
  rintro e w5 ⟨K5, ⟨hp, rfl⟩ | ⟨hp, rfl⟩⟩
  rotate_left
  · have HK5 := hid_of (HK4.out.trans K5)
    clear K5 CB w0 w1
    go_wp2
    exact ⟨rfl, HK5.out, .inr ⟨fun t => hp t.2.1, rfl⟩⟩
  replace w0 := K5.cell w0
  replace w1 := K5.cell w1
  have HK5 := hid_of (HK4.out.trans K5)
  have HPP := hid_of hp
  clear K5 CB HK4 hp
  go_wp2_with fail
  refine (sum_calls N hN yo my yc Y so ns sc ss w5 (HY.out.kept HK5.out) (HS.out.kept HK5.out) OK.out).mono ?_
  rintro e w6 ⟨rfl, K6⟩
  have HK6 := hid_of (HK5.out.trans K6)
  have WR : IntKind.i64.wrap (2 * cost) = 2 * cost := wrap_id (by omega) (by omega)
  clear K6 w0 w1 HK5
  obtain ⟨W, hW⟩ : ∃ W, worthOf Y my ss ns = W := ⟨_, rfl⟩
  rw [hW]
  have HWW := hid_of hW
  clear hW
  by_cases he : W = 2 * cost
  · have q : (W == 2 * cost) = true := by rw [beq_iff_eq]; exact he
    have PR : Hid (ProveOk Y my ss ns N P cost) := ⟨OK.out, HPP.out, by rw [HWW.out]; exact he⟩
    clear he
    go_wp2_with (go_at_call 51; refine (must_ok _).mono ?_; rintro e w' ⟨rfl, rfl⟩)
    exact bodyPost_end (v := .tuple #[]) (by simp [results, Tryd.results68]) rfl ⟨HK6.out, .inl ⟨PR.out, rfl⟩⟩
  · have q : (W == 2 * cost) = false := by rw [beq_eq_false_iff_ne]; exact he
    have PR : Hid (¬ ProveOk Y my ss ns N P cost) := fun t => he (by rw [← HWW.out]; exact t.2.2)
    clear he
    go_wp2_with (go_at_call 51; refine (must_no _).mono ?_; rintro e w' ⟨rfl, rfl⟩)
    exact ⟨rfl, HK6.out, .inr ⟨PR.out, rfl⟩⟩
end Go.Proofs.YtpdppjngbbkbbaaDoor

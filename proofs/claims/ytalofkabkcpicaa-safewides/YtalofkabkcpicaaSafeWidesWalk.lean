/- SafeWides: the walk of the law. -/
import Derived.Test.YtalofkabkcpicaaWideRef
import Derived.Test.YtalofkabkcpicaaAwake
import Derived.Test.YtalofkabkcpicaaFact
import Derived.OpenShut
import Derived.Deep.DeepCutAuto
namespace Go.Proofs.Ytalofkabkcpicaa
open Go.RowKit Go.ChangeShapes Go.WideShapes Go.ChangeAt

theorem compareP_same (h l x : Int) (w : World) (hx : IsWide h l x) :
    Calls Try.prog 22 #[.agg #[.int .i64 h, .int .u64 l], .agg #[.int .i64 h, .int .u64 l]] w fun e w' => e = .returned (.int .i64 0) ∧ Kept w w' := by
  have := compareP_calls h l h l x x w hx hx
  rw [Dg.cmp_eq rfl] at this
  exact this

theorem plusP_gen (h1 l1 h2 l2 x y : Int) (w : World) (hx : IsWide h1 l1 x) (hy : IsWide h2 l2 y) :
    Calls Try.prog 25 #[.agg #[.int .i64 h1, .int .u64 l1], .agg #[.int .i64 h2, .int .u64 l2]] w fun e w' =>
      (∃ hi lo c : Int, e = .returned (.tuple #[.agg #[.int .i64 hi, .int .u64 lo], .int .i64 c]) ∧ ((InWide (x + y) ∧ c = 0 ∧ IsWide hi lo (x + y)) ∨ (¬ InWide (x + y) ∧ c = 10 ∧ hi = 0 ∧ lo = 0))) ∧ Kept w w' :=
  (plusP_calls h1 l1 h2 l2 x y w hx hy).mono fun _ _ ⟨h, k⟩ => ⟨h.elim (fun ⟨a, hi, lo, b, c⟩ => ⟨hi, lo, 0, b, .inl ⟨a, rfl, c⟩⟩) (fun ⟨a, b⟩ => ⟨0, 0, 10, b, .inr ⟨a, rfl, rfl, rfl⟩⟩), k⟩

/-- What the operations of the sum yield. -/
def wf13 (h1 l1 h2 l2 x y : Int) (n : Nat) : Nat → Value → World → Prop
  | 0, v, _ => v = .agg #[.int .i64 h1, .int .u64 l1]
  | 1, v, w => BigAt w v x
  | 2, v, _ => v = .agg #[.int .i64 h2, .int .u64 l2]
  | 3, v, w => BigAt w v y
  | 4, v, w => BigAt w v (x + y)
  | 5, v, w => ∃ b, v = .pointer (some ⟨b, 0, none⟩) ∧ n ≤ b ∧ w.cell? ⟨b, 0, none⟩ = some (.bool false) ∧ w.cell? ⟨b, 1, none⟩ = some (.slice none 0 0) ∧ w.frozen? ⟨b, 0, none⟩ = false ∧ w.frozen? ⟨b, 1, none⟩ = false
  | _, _, _ => True
theorem wf13_kept (h1 l1 h2 l2 x y : Int) (n : Nat) (i : Nat) (v : Value) (w1 w2 : World) (hk : Kept w1 w2) (h : wf13 h1 l1 h2 l2 x y n i v w1) : wf13 h1 l1 h2 l2 x y n i v w2 := by
    match i, h with
    | 0, h => exact h
    | 1, h => exact BigAt.kept h hk
    | 2, h => exact h
    | 3, h => exact BigAt.kept h hk
    | 4, h => exact BigAt.kept h hk
    | 5, ⟨b, e, h0, h1, h2, h3, h4⟩ => exact ⟨b, e, h0, nbox hk h1 h2 h3 h4⟩
    | _ + 6, _ => trivial

set_option maxRecDepth 100000 in
set_option linter.unusedSimpArgs false in
set_option maxHeartbeats 4000000 in
theorem safeWidesWalk (h1 l1 h2 l2 a : Int) (x y : Int) (hx : IsWide h1 l1 x) (hy : IsWide h2 l2 y) (a1 : -9223372036854775808 ≤ a) (a2 : a ≤ 9223372036854775807) (w : World) :
    Calls Try.prog 5 #[.agg #[.int .i64 h1, .int .u64 l1], .agg #[.int .i64 h2, .int .u64 l2], .int .i64 a] w fun e w' => e = .returned (.bool true) ∧ Kept w w' := by
  have hnot : ∀ (x : Bool) (w : World), (Op.unary .not (.bool x)).run Try.prog w = .ok (.bool (!x)) w := fun _ _ => rfl
  have KW0 : Kept w ((w.alloc (Obj.cells #[.int .i64 h1, .int .u64 l1] 40)).alloc (Obj.cells #[.int .i64 h2, .int .u64 l2] 40)) := ((Kept.refl _).alloc _).alloc _
  go_enter Try.func5, Try.ntmps5
  go_wp2_with fail
  refine (awake_calls _).mono ?_
  rintro e wa ⟨rfl, K1⟩
  go_wp2_with fail
  refine (product_calls (-1) 1 _ (by omega) (by omega) (by omega) (by omega)).mono ?_
  rintro e wb ⟨⟨hi, lo, rfl, hw⟩, K2⟩
  obtain ⟨rfl, rfl⟩ : hi = -1 ∧ lo = 18446744073709551615 := hw.unique (z := -1 * 1) ⟨by omega, by omega, by omega, by omega, by omega⟩
  clear hw
  have KB := (KW0.trans K1).trans K2
  have p0 : wb.cell? ⟨w.heap.size, 0, none⟩ = some (.int .i64 h1) := K2.cell (K1.cell (by simp [go_sem]))
  have p1 : wb.cell? ⟨w.heap.size, 1, none⟩ = some (.int .u64 l1) := K2.cell (K1.cell (by simp [go_sem]))
  have q0 : wb.cell? ⟨w.heap.size + 1, 0, none⟩ = some (.int .i64 h2) := K2.cell (K1.cell (by simp [go_sem]))
  have q1 : wb.cell? ⟨w.heap.size + 1, 1, none⟩ = some (.int .u64 l2) := K2.cell (K1.cell (by simp [go_sem]))
  clear K1 K2 KW0
  have x1 := hx.1
  have x2 := hx.2.1
  go_wp2_with fail
  refine (product_calls a h1 _ a1 a2 x1 x2).mono ?_
  rintro e wc ⟨⟨ph, pl, rfl, hp⟩, K3⟩
  have p0 := K3.cell p0
  have p1 := K3.cell p1
  have q0 := K3.cell q0
  have q1 := K3.cell q1
  have KD : Kept wc (wc.alloc (Obj.cells #[.int .i64 ph, .int .u64 pl] 40)) := (Kept.refl _).alloc _
  have s0 : (wc.alloc (Obj.cells #[Value.int .i64 ph, Value.int .u64 pl] 40)).cell? ⟨wc.heap.size, 0, none⟩ = some (.int .i64 ph) := by simp [go_sem]
  have s1 : (wc.alloc (Obj.cells #[Value.int .i64 ph, Value.int .u64 pl] 40)).cell? ⟨wc.heap.size, 1, none⟩ = some (.int .u64 pl) := by simp [go_sem]
  go_wp2_with fail
  have t0 := KD.cell p0
  refine Ord.region [(0, 1), (2, 0), (4, 0), (5, 1), (1, 2), (3, 2), (6, 2), (7, 2), (8, 2), (9, 0)] (fun w' => Kept (wc.alloc (Obj.cells #[Value.int .i64 ph, Value.int .u64 pl] 40)) w') (by kernel_rfl) (by kernel_rfl) (by kernel_rfl) (by kernel_rfl) (fun _ _ d _ _ h => by cases d <;> exact h) ((Kept.refl _).drewN _) ?_
  repeat
    refine Ord.step rfl (fun K hK => ?_)
    simp only [Ord.body]
    go_simp
    first
      | (refine hK _ _ ?_; clear hK K)
      | (refine ⟨_, fun w' hS => (by have c0 := hS.cell s0; have c1 := hS.cell s1; simp only [c0, c1, Result.andThen]; rfl), hK _ _ ?_⟩; clear hK K)
      | (refine ⟨_, fun w' hS => (by have c0 := hS.cell t0; simp only [c0, Result.andThen]; rfl), hK _ _ ?_⟩; clear hK K)
      | (go_at_call 21; refine (wideL_calls ph pl (a * h1) _ hp).mono ?_; rintro e wd ⟨v1, rfl, B1, K4⟩; refine ⟨((Kept.refl _).drewN _).trans K4, hK _ _ ?_⟩; clear hK K)
      | (go_at_call_of 10 (Value.int IntKind.i64 a); refine (of_calls a _ a1 a2).mono ?_; rintro e we ⟨v2, rfl, B2, K5⟩; refine ⟨(((Kept.refl _).drewN _).trans K4).trans K5, hK _ _ ?_⟩; clear hK K)
      | (go_at_call_of 10 (Value.int IntKind.i64 h1); refine (of_calls h1 _ x1 x2).mono ?_; rintro e wf ⟨v3, rfl, B3, K6⟩; refine ⟨((((Kept.refl _).drewN _).trans K4).trans K5).trans K6, hK _ _ ?_⟩; clear hK K)
      | (go_at_call 17; refine (times_calls _ _ a h1 _ (B2.kept K6) B3 (lim64 a1 a2) (lim64 x1 x2)).mono ?_; rintro e wg ⟨v4, rfl, B4, K7⟩; refine ⟨(((((Kept.refl _).drewN _).trans K4).trans K5).trans K6).trans K7, hK _ _ ?_⟩; clear hK K)
      | (go_at_call 19; refine (compare_eq _ _ (a * h1) _ (B1.kept ((K5.trans K6).trans K7)) B4).mono ?_; rintro e wh ⟨rfl, K8⟩; refine ⟨((((((Kept.refl _).drewN _).trans K4).trans K5).trans K6).trans K7).trans K8, hK _ _ ?_⟩; clear hK K)
  refine Ord.done ?_
  have KH : Kept wc wh := KD.trans (((((((Kept.refl _).drewN _).trans K4).trans K5).trans K6).trans K7).trans K8)
  have p0 := KH.cell p0
  have p1 := KH.cell p1
  have q0 := KH.cell q0
  have q1 := KH.cell q1
  have KW : Kept w wh := (KB.trans K3).trans KH
  clear KH KD K3 K4 K5 K6 K7 K8 B1 B2 B3 B4 s0 s1 t0 hp KB
  generalize hcm : Dg.cmp x y = cm
  have HC := hid_of hcm
  clear hcm
  go_wp2_with fail
  refine Ord.region [(0, 1), (1, 1), (3, 1), (5, 1), (2, 2), (4, 2), (6, 2), (7, 2), (8, 0), (9, 0), (10, 1), (11, 1), (12, 2), (13, 0), (14, 0)] (fun w' => Kept wh w') (by kernel_rfl) (by kernel_rfl) (by kernel_rfl) (by kernel_rfl) (fun _ _ d _ _ h => by cases d <;> exact h) ((Kept.refl _).drewN _) ?_
  repeat
    refine Ord.step rfl (fun K hK => ?_)
    simp only [Ord.body]
    go_simp
    first
      | (refine hK _ _ ?_; clear hK K)
      | (refine ⟨_, fun w' hS => (by have c0 := hS.cell p0; have c1 := hS.cell p1; simp only [c0, c1, Result.andThen]; rfl), hK _ _ ?_⟩; clear hK K)
      | (refine ⟨_, fun w' hS => (by have c0 := hS.cell q0; have c1 := hS.cell q1; simp only [c0, c1, Result.andThen]; rfl), hK _ _ ?_⟩; clear hK K)
      | (go_at_call_of 22 (Value.agg #[Value.int IntKind.i64 h2, Value.int IntKind.u64 l2]); refine (compareP_calls h1 l1 h2 l2 x y _ hx hy).mono ?_; rintro e wi ⟨rfl, K4⟩; refine ⟨((Kept.refl _).drewN _).trans K4, hK _ _ ?_⟩; clear hK K)
      | (go_at_call_of 21 (Value.agg #[Value.int IntKind.i64 h1, Value.int IntKind.u64 l1]); refine (wideL_calls h1 l1 x _ hx).mono ?_; rintro e wj ⟨v1, rfl, B1, K5⟩; refine ⟨(((Kept.refl _).drewN _).trans K4).trans K5, hK _ _ ?_⟩; clear hK K)
      | (go_at_call_of 21 (Value.agg #[Value.int IntKind.i64 h2, Value.int IntKind.u64 l2]); refine (wideL_calls h2 l2 y _ hy).mono ?_; rintro e wk ⟨v2, rfl, B2, K6⟩; refine ⟨((((Kept.refl _).drewN _).trans K4).trans K5).trans K6, hK _ _ ?_⟩; clear hK K)
      | (go_at_call 19; refine (compare_calls _ _ x y _ (B1.kept K6) B2).mono ?_; rintro e wl ⟨rfl, K7⟩; refine ⟨(((((Kept.refl _).drewN _).trans K4).trans K5).trans K6).trans K7, hK _ _ ?_⟩; clear hK K)
      | (go_at_call 22; refine (compareP_same h1 l1 x _ hx).mono ?_; rintro e wm ⟨rfl, K8⟩; refine ⟨((((((Kept.refl _).drewN _).trans K4).trans K5).trans K6).trans K7).trans K8, hK _ _ ?_⟩; clear hK K)
  refine Ord.done ?_
  have KM : Kept wh wm := ((((((Kept.refl _).drewN _).trans K4).trans K5).trans K6).trans K7).trans K8
  have p0 := KM.cell p0
  have p1 := KM.cell p1
  have q0 := KM.cell q0
  have q1 := KM.cell q1
  have KX := KW.trans KM
  clear KM KW K4 K5 K6 K7 K8 B1 B2 HC
  go_wp2_with fail
  refine (narrowP_calls h1 l1 x _ hx).mono ?_
  rintro e wn ⟨rfl, K4⟩
  have p0 := K4.cell p0
  have p1 := K4.cell p1
  have q0 := K4.cell q0
  have q1 := K4.cell q1
  generalize hnx : narrow x = nx
  have HN := hid_of hnx
  clear hnx
  go_wp2_with fail
  refine (wideL_calls h1 l1 x _ hx).mono ?_
  rintro e wo ⟨v1, rfl, B1, K5⟩
  go_wp2_with fail
  refine (narrow_calls v1 x _ B1).mono ?_
  rintro e wp ⟨rfl, K6⟩
  rw [HN.out]
  go_wp2_with fail
  refine (widen_calls a _ a1 a2).mono ?_
  rintro e wq ⟨⟨ah, al, rfl, hwa⟩, K7⟩
  go_wp2_with fail
  refine (wideL_calls ah al a _ hwa).mono ?_
  rintro e wr ⟨v2, rfl, B2, K8⟩
  go_wp2_with fail
  refine (of_calls a _ a1 a2).mono ?_
  rintro e ws ⟨v3, rfl, B3, K9⟩
  go_wp2_with fail
  refine (compare_eq _ _ a _ (B2.kept K9) B3).mono ?_
  rintro e wt ⟨rfl, K10⟩
  have KT : Kept wn wt := ((((K5.trans K6).trans K7).trans K8).trans K9).trans K10
  have p0 := KT.cell p0
  have p1 := KT.cell p1
  have q0 := KT.cell q0
  have q1 := KT.cell q1
  have KY := (KX.trans K4).trans KT
  clear KT KX K4 K5 K6 K7 K8 K9 K10 B1 B2 B3 hwa HN
  go_wp2_with fail
  refine (plusP_gen h1 l1 h2 l2 x y _ hx hy).mono ?_
  rintro e wu ⟨⟨sh, sl, sc, rfl, hs⟩, K4⟩
  have HS := hid_of hs
  clear hs
  have p0 := K4.cell p0
  have p1 := K4.cell p1
  have q0 := K4.cell q0
  have q1 := K4.cell q1
  have KU := KY.trans K4
  clear K4 KY
  have lx : x.natAbs < LIM := by obtain ⟨i1, i2, i3, i4, i5⟩ := hx; exact lim_big (by omega) (by omega)
  have ly : y.natAbs < LIM := by obtain ⟨i1, i2, i3, i4, i5⟩ := hy; exact lim_big (by omega) (by omega)
  have KS : Kept wu (wu.alloc (Obj.cells #[Value.int .i64 sh, Value.int .u64 sl] 40)) := (Kept.refl _).alloc _
  have p0 := KS.cell p0
  have p1 := KS.cell p1
  have q0 := KS.cell q0
  have q1 := KS.cell q1
  have s0 : (wu.alloc (Obj.cells #[Value.int .i64 sh, Value.int .u64 sl] 40)).cell? ⟨wu.heap.size, 0, none⟩ = some (.int .i64 sh) := by simp [go_sem]
  have s1 : (wu.alloc (Obj.cells #[Value.int .i64 sh, Value.int .u64 sl] 40)).cell? ⟨wu.heap.size, 1, none⟩ = some (.int .u64 sl) := by simp [go_sem]
  have KV := KU.trans KS
  clear KU
  go_wp2_with fail
  revert p0 p1 q0 q1 s0 s1 KV KS
  generalize (wu.alloc (Obj.cells #[Value.int .i64 sh, Value.int .u64 sl] 40)) = wv
  intro KS p0 p1 q0 q1 s0 s1 KV
  refine Fact.regionG [85, 86, 87, 88, 89, 14] (wf13 h1 l1 h2 l2 x y wv.heap.size) (by kernel_rfl) (by kernel_rfl) (by kernel_rfl) (by kernel_rfl) (wf13_kept _ _ _ _ _ _ _) ?_ ?_ ?_
  case refine_1 =>
    intro d hd
    simp only [List.mem_cons, List.not_mem_nil, or_false] at hd
    rcases hd with rfl | rfl | rfl | rfl | rfl | rfl <;> (simp)
  case refine_2 =>
    intro i o hi ho b wz hK hb hd
    have h6 : i = 0 ∨ i = 1 ∨ i = 2 ∨ i = 3 ∨ i = 4 ∨ i = 5 := by simp only [List.length_cons, List.length_nil] at hi; omega
    clear hi
    rcases h6 with rfl | rfl | rfl | rfl | rfl | rfl
    · -- 0
      simp only [List.getElem?_toArray, List.getElem?_cons_succ, List.getElem?_cons_zero, Option.some.injEq] at ho
      subst ho
      have c0 := hK.cell p0
      have c1 := hK.cell p1
      have f3 := (show b.eval (.tmp 3) = .pointer (some ⟨w.heap.size, 0, none⟩) from hb 3 (by kernel_rfl))
      clear hd hb hK
      simp only [Oper.wp, execOp, f3]
      go_simp
      exact ⟨_, rfl, Kept.refl _, rfl⟩
    · -- 1
      simp only [List.getElem?_toArray, List.getElem?_cons_succ, List.getElem?_cons_zero, Option.some.injEq] at ho
      subst ho
      have d0 : b.eval (.tmp 85) = .agg #[.int .i64 h1, .int .u64 l1] := hd 0 85 (by kernel_rfl)
      clear hd hb
      simp only [Oper.wp, execOp]
      go_simp
      simp only [Act.eval, Array.getD_eq_getD_getElem?] at d0
      rw [d0]
      refine (wideL_calls h1 l1 x _ hx).mono ?_
      rintro e wd ⟨v4, rfl, B4, K4⟩
      exact ⟨v4, rfl, K4, B4⟩
    · -- 2
      simp only [List.getElem?_toArray, List.getElem?_cons_succ, List.getElem?_cons_zero, Option.some.injEq] at ho
      subst ho
      have c0 := hK.cell q0
      have c1 := hK.cell q1
      have f3 := (show b.eval (.tmp 4) = .pointer (some ⟨w.heap.size + 1, 0, none⟩) from hb 4 (by kernel_rfl))
      clear hd hb hK
      simp only [Oper.wp, execOp, f3]
      go_simp
      exact ⟨_, rfl, Kept.refl _, rfl⟩
    · -- 3
      simp only [List.getElem?_toArray, List.getElem?_cons_succ, List.getElem?_cons_zero, Option.some.injEq] at ho
      subst ho
      have d0 : b.eval (.tmp 87) = .agg #[.int .i64 h2, .int .u64 l2] := hd 2 87 (by kernel_rfl)
      clear hd hb
      simp only [Oper.wp, execOp]
      go_simp
      simp only [Act.eval, Array.getD_eq_getD_getElem?] at d0
      rw [d0]
      refine (wideL_calls h2 l2 y _ hy).mono ?_
      rintro e wd ⟨v4, rfl, B4, K4⟩
      exact ⟨v4, rfl, K4, B4⟩
    · -- 4
      simp only [List.getElem?_toArray, List.getElem?_cons_succ, List.getElem?_cons_zero, Option.some.injEq] at ho
      subst ho
      have d1 : BigAt wz (b.eval (.tmp 86)) x := hd 1 86 (by kernel_rfl)
      have d3 : BigAt wz (b.eval (.tmp 88)) y := hd 3 88 (by kernel_rfl)
      clear hd hb
      simp only [Oper.wp, execOp]
      go_simp
      simp only [Act.eval, Array.getD_eq_getD_getElem?] at d1 d3
      refine (plus_calls _ _ x y _ d1 d3 lx ly).mono ?_
      rintro e wd ⟨v4, rfl, B4, K4⟩
      exact ⟨v4, rfl, K4, B4⟩
    · -- 5
      simp only [List.getElem?_toArray, List.getElem?_cons_succ, List.getElem?_cons_zero, Option.some.injEq] at ho
      subst ho
      have hz := hK.size
      clear hd hb
      simp only [Oper.wp, execOp]
      go_simp
      refine ⟨_, rfl, (Kept.refl _).alloc _, _, rfl, hz, ?_, ?_, ?_, ?_⟩ <;> simp [go_sem]
  case refine_3 =>
    intro vs wz hK hf
    have d4 : BigAt wz (vs 4) (x + y) := hf 4 (by decide)
    have d5 : ∃ b, vs 5 = .pointer (some ⟨b, 0, none⟩) ∧ wv.heap.size ≤ b ∧ wz.cell? ⟨b, 0, none⟩ = some (.bool false) ∧ wz.cell? ⟨b, 1, none⟩ = some (.slice none 0 0) ∧ wz.frozen? ⟨b, 0, none⟩ = false ∧ wz.frozen? ⟨b, 1, none⟩ = false := hf 5 (by decide)
    clear hf
    obtain ⟨b, hb, z0, z1, z2, z3, z4⟩ := d5
    have d4' : ∃ m2 ao2 n2 cap2, vs 4 = .agg #[.bool m2, .slice ao2 n2 cap2] := by
      obtain ⟨m2, ao2, n2, cap2, ds2, hv, -, -, -, -⟩ := d4.ex
      exact ⟨m2, ao2, n2, cap2, hv⟩
    obtain ⟨m2, ao2, n2, cap2, hv⟩ := d4'
    rw [hv] at d4
    constructor
    simp only [List.length_cons, List.length_nil, List.getElem?_toArray, List.getElem?_cons_succ, List.getElem?_cons_zero, Nat.zero_add, Nat.reduceAdd, Fact.putsL, hb, hv]
    go_simp
    have KZ := KV.trans (((Kept.refl wv).drewN 1).trans hK)
    have hlt : wu.heap.size < wv.heap.size := lt_of_cell s0
    have hwv := KV.size
    have t0 := hK.cell s0
    have t1 := hK.cell s1
    obtain ⟨r1, r2, r3, r4⟩ := box2w z1 z2 (.bool m2) (.slice ao2 n2 cap2)
    have D4 := d4.box2w z1 z2 (.bool m2) (.slice ao2 n2 cap2)
    have S0 : ((wz.setCell ⟨b, 0, none⟩ (.bool m2)).setCell ⟨b, 1, none⟩ (.slice ao2 n2 cap2)).cell? ⟨wu.heap.size, 0, none⟩ = some (.int .i64 sh) := by
      rw [World.cell?_setCell_other _ _ _ _ (by simp), World.cell?_setCell_other _ _ _ _ (by first | (simp; done) | (simp; omega))]; exact t0
    have S1 : ((wz.setCell ⟨b, 0, none⟩ (.bool m2)).setCell ⟨b, 1, none⟩ (.slice ao2 n2 cap2)).cell? ⟨wu.heap.size, 1, none⟩ = some (.int .u64 sl) := by
      rw [World.cell?_setCell_other _ _ _ _ (by first | (simp; done) | (simp; omega)), World.cell?_setCell_other _ _ _ _ (by simp)]; exact t1
    have KT : Kept w ((wz.setCell ⟨b, 0, none⟩ (.bool m2)).setCell ⟨b, 1, none⟩ (.slice ao2 n2 cap2)) := (KZ.setCell (Nat.le_trans hwv z0) _).setCell (Nat.le_trans hwv z0) _
    clear r1 r2 t0 t1 z1 z2 z3 z4 d4 hK KZ hv hb p0 p1 q0 q1 s0 s1
    revert r3 r4 D4 S0 S1 KT
    generalize ((wz.setCell ⟨b, 0, none⟩ (.bool m2)).setCell ⟨b, 1, none⟩ (.slice ao2 n2 cap2)) = wy
    intro r3 r4 D4 S0 S1 KT
    rcases HS.out with ⟨hin, hsc, hws⟩ | ⟨hin, hsc, hsh, hsl⟩
    · subst hsc
      clear HS
      go_wp2_with fail
      refine (fits_calls _ (x + y) true (hid_of ⟨fun _ => hin, fun _ => rfl⟩) _ D4).mono ?_
      rintro e w1 ⟨rfl, K1⟩
      have r3 := K1.cell r3
      have r4 := K1.cell r4
      have S0 := K1.cell S0
      have S1 := K1.cell S1
      have D4 := D4.kept K1
      have KT := KT.trans K1
      clear K1 hin
      go_wp2_with fail
      refine Ord.region [(0, 0), (1, 0), (2, 0), (3, 1), (5, 1), (4, 2), (6, 2), (7, 0), (8, 0), (9, 0)] (fun w' => Kept w1 w') (by kernel_rfl) (by kernel_rfl) (by kernel_rfl) (by kernel_rfl) (fun _ _ d _ _ h => by cases d <;> exact h) ((Kept.refl _).drewN _) ?_
      repeat
        refine Ord.step rfl (fun K hK => ?_)
        simp only [Ord.body]
        go_simp
        first
          | (refine hK _ _ ?_; clear hK K)
          | (refine ⟨_, fun w' hS => (by have c0 := hS.cell S0; have c1 := hS.cell S1; simp only [c0, c1, Result.andThen]; rfl), hK _ _ ?_⟩; clear hK K)
          | (refine ⟨_, fun w' hS => (by have c0 := hS.cell r3; have c1 := hS.cell r4; simp only [c0, c1, Result.andThen]; rfl), hK _ _ ?_⟩; clear hK K)
          | (go_at_call 21; refine (wideL_calls sh sl (x + y) _ hws).mono ?_; rintro e w2 ⟨v7, rfl, B7, K7⟩; refine ⟨((Kept.refl _).drewN _).trans K7, hK _ _ ?_⟩; clear hK K)
          | (go_at_call 19; refine (compare_eq _ _ (x + y) _ B7 (D4.kept (((Kept.refl _).drewN _).trans K7))).mono ?_; rintro e w3 ⟨rfl, K8⟩; refine ⟨(((Kept.refl _).drewN _).trans K7).trans K8, hK _ _ ?_⟩; clear hK K)
      refine Ord.done ?_
      go_wp2_with fail
      go_ret
      exact ⟨rfl, KT.trans ((((Kept.refl _).drewN _).trans K7).trans K8)⟩
    · subst hsc hsh hsl
      clear HS
      go_wp2_with fail
      refine (fits_calls _ (x + y) false (hid_of ⟨fun h => (by cases h), fun h => absurd h hin⟩) _ D4).mono ?_
      rintro e w1 ⟨rfl, K1⟩
      have S0 := K1.cell S0
      have S1 := K1.cell S1
      have KT := KT.trans K1
      clear K1 hin
      go_wp2
      go_ret
      exact ⟨rfl, KT⟩
end Go.Proofs.Ytalofkabkcpicaa

/- Parts: the walk. -/
import Derived.Test.YtjheiaegpoppaaaPaE
import Derived.Test.YtjheiaegpoppaaaPaD
import Derived.Test.YtjheiaegpoppaaaViC
import Derived.Test.YtjheiaegpoppaaaFact
import Derived.Test.YtjheiaegpoppaaaRightW
namespace Go.Proofs.Ytjheiaegpoppaaa
open Go.RowKit

/-- The edges, each both ways. -/
def both (es : List Ed) : List Ed := es ++ es.map turn

theorem both_rg {es : List Ed} {n : Nat} (hrg : ∀ e ∈ es, 0 ≤ e.f ∧ e.f < (n : Int) ∧ 0 ≤ e.t ∧ e.t < (n : Int)) : ∀ e ∈ both es, 0 ≤ e.f ∧ e.f < (n : Int) ∧ 0 ≤ e.t ∧ e.t < (n : Int) := fun e he => by
  rcases List.mem_append.1 he with he | he
  · exact hrg e he
  · obtain ⟨d, hd, rfl⟩ := List.mem_map.1 he
    have := hrg d hd
    exact ⟨this.2.2.1, this.2.2.2, this.1, this.2.1⟩

theorem mem_outs' {es : List Ed} {e : Ed} (he : e ∈ es) {f t : Nat} (hf : e.f = (f : Int)) (ht : e.t = (t : Int)) : t ∈ outs es f := by
  unfold outs nxt
  rw [List.take_length]
  simp only [List.mem_map, List.mem_filter]
  refine ⟨(t : Int), ⟨e, ⟨he, by rw [hf]; simp⟩, ht⟩, by simp⟩
theorem outs_mem {es : List Ed} {f t : Nat} (h : t ∈ outs es f) : ∃ e ∈ es, e.f = (f : Int) ∧ e.t.toNat = t := by
  unfold outs at h
  obtain ⟨z, hz, rfl⟩ := List.mem_map.1 h
  obtain ⟨e, he, h1, rfl⟩ := nxt_mem hz
  exact ⟨e, he, h1, rfl⟩

theorem both_symm {es : List Ed} {n : Nat} (hrg : ∀ e ∈ es, 0 ≤ e.f ∧ e.f < (n : Int) ∧ 0 ≤ e.t ∧ e.t < (n : Int)) {u v : Nat} (h : v ∈ outs (both es) u) : u ∈ outs (both es) v := by
  obtain ⟨e, he, h1, h2⟩ := outs_mem h
  have r := both_rg hrg e he
  have ht : e.t = (v : Int) := by omega
  rcases List.mem_append.1 he with he | he
  · exact mem_outs' (e := turn e) (List.mem_append.2 (.inr (List.mem_map.2 ⟨e, he, rfl⟩))) ht h1
  · obtain ⟨d, hd, rfl⟩ := List.mem_map.1 he
    exact mem_outs' (e := d) (List.mem_append.2 (.inl hd)) ht h1

theorem Way.symm_of {L : Nat → List Nat} (hs : ∀ u v, v ∈ L u → u ∈ L v) {a b : Nat} (h : Way L a b) : Way L b a := by
  induction h with
  | refl => exact Way.refl _
  | step _ hx ih => exact ((Way.refl _).step (hs _ _ hx)).trans ih
theorem Way.lt {L : Nat → List Nat} {n : Nat} (hL : ∀ v, v < n → ∀ t ∈ L v, t < n) {a b : Nat} (h : Way L a b) (ha : a < n) : b < n := by
  induction h with
  | refl => exact ha
  | step _ hx ih => exact hL _ ih _ hx

/-- Parts by names are numbered as their classes. -/
theorem names_num {n : Nat} {L : Nat → List Int} {R : Nat → Nat → Prop} {ρl : List Nat} (P : PInv n R (fun j => ρl.getD j 0) n (pf (natL L) (fun j => ρl.getD j 0) n)) (cov : ∀ v, v < n → ∃ j, j < n ∧ ρl.getD j 0 = v) :
    (∀ x, x < n → ∃ a : Nat, pf (natL L) (fun j => ρl.getD j 0) n x = (a : Int) ∧ a < n) ∧ ∃ cnt, NumOf n R (ncl (pnm L ρl n)) cnt := by
  have pos : ∀ x, x < n → 0 ≤ pf (natL L) (fun j => ρl.getD j 0) n x := fun x hx => by
    obtain ⟨j, hj, e⟩ := cov x hx
    have := P.roots j hj
    rw [e] at this
    exact this
  refine ⟨fun x hx => ?_, _, (ncl_num (pnm L ρl n) n).congr (fun u v hu hv => ?_)⟩
  · obtain ⟨a, e, ha, -⟩ := P.name x hx (pos x hx)
    exact ⟨a, e, ha⟩
  · have p1 := pos u hu
    have p2 := pos v hv
    unfold pnm
    constructor
    · intro e
      exact P.inn u v hu hv p1 (by omega)
    · intro r
      rw [P.cl u v hu hv p1 r]

/-- The parts of a graph, whichever way its edges go. -/
theorem parts_num {es : List Ed} {n : Nat} (hrg : ∀ e ∈ es, 0 ≤ e.f ∧ e.f < (n : Int) ∧ 0 ≤ e.t ∧ e.t < (n : Int)) :
    (∀ x, x < n → ∃ a : Nat, pf (natL (nxt (both es) (both es).length)) (fun j => (List.range n).getD j 0) n x = (a : Int) ∧ a < n) ∧ ∃ cnt, NumOf n (Way (outs (both es))) (ncl (pnm (nxt (both es) (both es).length) (List.range n) n)) cnt := by
  have hL := outs_lt (both_rg hrg)
  have hs : ∀ u v, v ∈ outs (both es) u → u ∈ outs (both es) v := fun u v h => both_symm hrg h
  have hρ : ∀ j, j < n → (List.range n).getD j 0 = j := fun j hj => by simp [List.getD, hj]
  refine names_num (pf_inv (fun j hj => by rw [hρ j hj]; exact hj) (fun u v _ _ h => h.symm_of hs) (fun u v x _ _ _ h k => h.trans k) (fun u _ => Way.refl u) (fun k hk P hr x hx hpx => ?_) n (Nat.le_refl _)) (fun v hv => ⟨v, hv, hρ v hv⟩)
  rw [hρ k hk] at hr ⊢
  constructor
  · intro h; exact h.way
  · intro h
    clear hpx hx
    induction h with
    | refl => exact .refl
    | step hw hx ih =>
      refine ih.step hx (fun hA => ?_)
      have w2 := hw.step hx
      have := P.cl _ k (w2.lt hL hk) hk hA (w2.symm_of hs)
      omega

theorem JRow.upTo {w : World} {g n : Nat} (h : IntsAt w g n (fun v => (v : Int))) (hn : n ≤ 1024) : JRow w (some ⟨g, 0, none⟩) n n (qz (List.range n)) :=
  ⟨by simp [qz], Nat.le_refl _, by unfold maxLen; omega, fun _ => ⟨g, 0, rfl, fun i hi => by
    rw [Nat.zero_add, h.cell hi, qz_get _ _ (by simpa using hi)]
    simp [List.getD, hi]⟩⟩

/-- What the operations of the statement that lays the graph of both ways yield. -/
def bf (n m cap : Nat) (ao : Option Addr) (es : List Ed) (bg base : Nat) : Nat → Value → World → Prop := fun i v w => match i with
  | 0 => v = .pointer (some ⟨bg, 0, none⟩)
  | 1 => v = .int .i64 (n : Int)
  | 2 => v = .pointer (some ⟨bg, 1, none⟩)
  | 3 => v = .slice ao m cap
  | 4 => v = .agg #[.int .i64 (n : Int), .slice ao m cap]
  | 5 => ∃ ao' cap', v = .agg #[.int .i64 (n : Int), .slice ao' m cap'] ∧ w.ownsRow base 42 4 (.slice ao' m cap') m (evals (es.map turn))
  | 6 => ∃ ao' cap', v = .slice ao' m cap' ∧ w.ownsRow base 42 4 (.slice ao' m cap') m (evals (es.map turn))
  | 7 => ∃ bs ao' cap', v = .slice (some ⟨bs, 0, none⟩) 2 2 ∧ w.cell? ⟨bs, 0, none⟩ = some (.slice ao m cap) ∧ w.cell? ⟨bs, 0 + 1, none⟩ = some (.slice ao' m cap') ∧ w.ownsRow base 42 4 (.slice ao' m cap') m (evals (es.map turn))
  | 8 => ∃ ao2 cap2, v = .slice ao2 (m + m) cap2 ∧ w.ownsRow base 42 4 (.slice ao2 (m + m) cap2) (m + m) (evals (both es))
  | 9 => ∃ ao2 cap2, v = .agg #[.int .i64 (n : Int), .slice ao2 (m + m) cap2] ∧ w.ownsRow base 42 4 (.slice ao2 (m + m) cap2) (m + m) (evals (both es))
  | _ => ∃ b, v = .pointer (some ⟨b, 0, none⟩) ∧ base ≤ b ∧ b < w.heap.size ∧ w.heap[b]? = some (Obj.cells #[.int .i64 0, .slice none 0 0] 24)

theorem bf_kept (n m cap : Nat) (ao : Option Addr) (es : List Ed) (bg base : Nat) : ∀ i v w w', Kept w w' → bf n m cap ao es bg base i v w → bf n m cap ao es bg base i v w' := by
  intro i v w w' K h
  unfold bf at h ⊢
  split at h
  · exact h
  · exact h
  · exact h
  · exact h
  · exact h
  · obtain ⟨a, b, c, d⟩ := h; exact ⟨a, b, c, ownsK d K⟩
  · obtain ⟨a, b, c, d⟩ := h; exact ⟨a, b, c, ownsK d K⟩
  · obtain ⟨a, b, c, d, e, f, g⟩ := h; exact ⟨a, b, c, d, K.cell e, K.cell f, ownsK g K⟩
  · obtain ⟨a, b, c, d⟩ := h; exact ⟨a, b, c, ownsK d K⟩
  · obtain ⟨a, b, c, d⟩ := h; exact ⟨a, b, c, ownsK d K⟩
  · obtain ⟨a, b, c, d, e⟩ := h; exact ⟨a, b, c, Nat.lt_of_lt_of_le d K.size, (K.block a d).trans e⟩

set_option maxRecDepth 100000 in
set_option maxHeartbeats 4000000 in
theorem partsBad_calls (nodes : Int) (ao : Option Addr) (m cap : Nat) (es : List Ed) (w : World) (h : ERow w ao m cap es) (c a : Int) (hf : Hid (faultOf nodes es = (c, a))) (hb : c ≠ 0) :
    Calls Try.prog 19 #[.agg #[.int .i64 nodes, .slice ao m cap]] w fun r w' => r = .returned (.tuple #[.slice none 0 0, .int .i64 c]) ∧ Kept w w' := by
  have hfd : ∀ w : World, (Instr.field 50 (.agg #[.int .i64 c, .int .i64 a]) 0).run Try.prog w = .ok (.int .i64 c) w := fun _ => rfl
  have KG : Kept w (w.alloc (Obj.cells #[.int .i64 nodes, .slice ao m cap] 24)) := (Kept.refl w).alloc _
  have g0 : (w.alloc (Obj.cells #[.int .i64 nodes, .slice ao m cap] 24)).cell? ⟨w.heap.size, 0, none⟩ = some (.int .i64 nodes) := by simp [go_sem]
  have g1 : (w.alloc (Obj.cells #[.int .i64 nodes, .slice ao m cap] 24)).cell? ⟨w.heap.size, 1, none⟩ = some (.slice ao m cap) := by simp [go_sem]
  have HE := hid_of (h.kept KG)
  have hq : (c != 0) = true := by simpa using hb
  clear h hb
  go_enter Try.func19, Try.ntmps19
  go_wp2_with fail
  generalize hW0 : w.alloc (Obj.cells #[.int .i64 nodes, .slice ao m cap] 24) = W0 at KG g0 g1 HE ⊢
  clear hW0
  refine (check_calls nodes ao m cap es W0 HE.out c a hf).mono ?_
  rintro v wa ⟨rfl, K1⟩
  have KA := hid_of (KG.trans K1)
  clear K1 KG HE g1 g0
  go_wp2_with fail
  go_ret2
  exact ⟨rfl, KA.out⟩

set_option maxRecDepth 100000 in
set_option maxHeartbeats 8000000 in
theorem parts_calls (n : Nat) (hn : n ≤ 1024) (ao : Option Addr) (m cap : Nat) (es : List Ed) (w : World) (h : ERow w ao m cap es) (hnil : Hid (ao = none → m = 0 ∧ cap = 0)) (hf : Hid (faultOf (n : Int) es = (0, 0))) (hm4 : m ≤ 4096) (hrg : Hid (∀ e ∈ es, 0 ≤ e.f ∧ e.f < (n : Int) ∧ 0 ≤ e.t ∧ e.t < (n : Int))) :
    Calls Try.prog 19 #[.agg #[.int .i64 (n : Int), .slice ao m cap]] w fun r w' => ∃ g c cnt, r = .returned (.tuple #[.slice (some ⟨g, 0, none⟩) n n, .int .i64 0]) ∧ IntsAt w' g n c ∧ NumOf n (Way (outs (both es))) c cnt ∧ w.heap.size ≤ g ∧ Kept w w' := by
  have hfd : ∀ w : World, (Instr.field 50 (.agg #[.int .i64 0, .int .i64 0]) 0).run Try.prog w = .ok (.int .i64 0) w := fun _ => by kernel_rfl
  have hfg : ∀ (w : World) (ao' : Option Addr) (cap' : Nat), (Instr.field 24 (.agg #[.int .i64 (n : Int), .slice ao' m cap']) 1).run Try.prog w = .ok (.slice ao' m cap') w := fun _ _ _ => rfl
  have KG : Kept w (w.alloc (Obj.cells #[.int .i64 (n : Int), .slice ao m cap] 24)) := (Kept.refl w).alloc _
  have g0 : (w.alloc (Obj.cells #[.int .i64 (n : Int), .slice ao m cap] 24)).cell? ⟨w.heap.size, 0, none⟩ = some (.int .i64 (n : Int)) := by simp [go_sem]
  have g1 : (w.alloc (Obj.cells #[.int .i64 (n : Int), .slice ao m cap] 24)).cell? ⟨w.heap.size, 1, none⟩ = some (.slice ao m cap) := by simp [go_sem]
  have HE := hid_of (h.kept KG)
  have HL := hid_of h.len
  clear h
  go_enter Try.func19, Try.ntmps19
  go_wp2_with fail
  generalize hW0 : w.alloc (Obj.cells #[.int .i64 (n : Int), .slice ao m cap] 24) = W0 at KG g0 g1 HE ⊢
  clear hW0
  refine (check_calls (n : Int) ao m cap es W0 HE.out 0 0 hf).mono ?_
  rintro v wa ⟨rfl, K1⟩
  replace g0 := K1.cell g0
  replace g1 := K1.cell g1
  have HE1 := hid_of (HE.out.kept K1)
  have KA := hid_of (KG.trans K1)
  clear K1 KG HE
  go_wp2_with fail
  obtain ⟨bg, hbg⟩ : ∃ bg, w.heap.size = bg := ⟨_, rfl⟩
  rw [hbg] at g0 g1 ⊢
  have HBG := hid_of hbg
  clear hbg
  refine Fact.regionG [12, 13, 14, 15, 16, 17, 18, 19, 20, 21, 5] (bf n m cap ao es bg wa.heap.size) (by kernel_rfl) (by kernel_rfl) (by kernel_rfl) (by kernel_rfl) (bf_kept _ _ _ _ _ _ _) ?_ ?_ ?_
  case refine_1 =>
    intro d hd
    simp only [List.mem_cons, List.not_mem_nil, or_false] at hd
    rcases hd with rfl | rfl | rfl | rfl | rfl | rfl | rfl | rfl | rfl | rfl | rfl <;> (simp)
  case refine_2 =>
    intro i o hi ho b wz hK hb hd
    have f1 := (show b.eval (.tmp 1) = .pointer (some ⟨bg, 0, none⟩) from hb 1 (by kernel_rfl))
    have KZ : Kept wa wz := ((Kept.refl wa).drewN 1).trans hK
    have h6 : i = 0 ∨ i = 1 ∨ i = 2 ∨ i = 3 ∨ i = 4 ∨ i = 5 ∨ i = 6 ∨ i = 7 ∨ i = 8 ∨ i = 9 ∨ i = 10 := by simp only [List.length_cons, List.length_nil] at hi; omega
    clear hi
    rcases h6 with rfl | rfl | rfl | rfl | rfl | rfl | rfl | rfl | rfl | rfl | rfl
    · simp only [List.getElem?_toArray, List.getElem?_cons_zero, Option.some.injEq] at ho
      subst ho
      clear hd hb hK
      simp only [Oper.wp, execOp, f1]
      go_simp
      exact ⟨_, rfl, Kept.refl _, rfl⟩
    · simp only [List.getElem?_toArray, List.getElem?_cons_succ, List.getElem?_cons_zero, Option.some.injEq] at ho
      subst ho
      have d0 : b.eval (.tmp 12) = .pointer (some ⟨bg, 0, none⟩) := hd 0 12 (by kernel_rfl)
      have c0 := KZ.cell g0
      clear hd hb hK
      simp only [Oper.wp, execOp, d0]
      go_simp
      exact ⟨_, rfl, Kept.refl _, rfl⟩
    · simp only [List.getElem?_toArray, List.getElem?_cons_succ, List.getElem?_cons_zero, Option.some.injEq] at ho
      subst ho
      clear hd hb hK
      simp only [Oper.wp, execOp, f1]
      go_simp
      exact ⟨_, rfl, Kept.refl _, rfl⟩
    · simp only [List.getElem?_toArray, List.getElem?_cons_succ, List.getElem?_cons_zero, Option.some.injEq] at ho
      subst ho
      have d0 : b.eval (.tmp 14) = .pointer (some ⟨bg, 1, none⟩) := hd 2 14 (by kernel_rfl)
      have c0 := KZ.cell g1
      clear hd hb hK
      simp only [Oper.wp, execOp, d0]
      go_simp
      exact ⟨_, rfl, Kept.refl _, rfl⟩
    · simp only [List.getElem?_toArray, List.getElem?_cons_succ, List.getElem?_cons_zero, Option.some.injEq] at ho
      subst ho
      have c0 := KZ.cell g0
      have c1 := KZ.cell g1
      clear hd hb hK
      simp only [Oper.wp, execOp, f1]
      go_simp
      exact ⟨_, rfl, Kept.refl _, rfl⟩
    · simp only [List.getElem?_toArray, List.getElem?_cons_succ, List.getElem?_cons_zero, Option.some.injEq] at ho
      subst ho
      have d0 : b.eval (.tmp 16) = .agg #[.int .i64 (n : Int), .slice ao m cap] := hd 4 16 (by kernel_rfl)
      clear hd hb
      simp only [Oper.wp, execOp]
      go_simp
      simp only [Act.eval, Array.getD_eq_getD_getElem?] at d0
      rw [d0]
      refine (rev_calls (n : Int) ao m cap es wz (HE1.out.kept KZ) (by omega) hnil.out).mono ?_
      rintro e wd ⟨ao', cap', rfl, O4, K4⟩
      exact ⟨_, rfl, K4, ao', cap', rfl, World.ownsRow.mono O4 KZ.size⟩
    · simp only [List.getElem?_toArray, List.getElem?_cons_succ, List.getElem?_cons_zero, Option.some.injEq] at ho
      subst ho
      obtain ⟨ao', cap', d0, O4⟩ : ∃ ao' cap', b.eval (.tmp 17) = .agg #[.int .i64 (n : Int), .slice ao' m cap'] ∧ wz.ownsRow wa.heap.size 42 4 (.slice ao' m cap') m (evals (es.map turn)) := hd 5 17 (by kernel_rfl)
      clear hd hb
      simp only [Oper.wp, execOp, d0]
      go_simp
      exact ⟨_, rfl, Kept.refl _, ao', cap', rfl, O4⟩
    · simp only [List.getElem?_toArray, List.getElem?_cons_succ, List.getElem?_cons_zero, Option.some.injEq] at ho
      subst ho
      obtain ⟨ao', cap', d0, O4⟩ : ∃ ao' cap', b.eval (.tmp 18) = .slice ao' m cap' ∧ wz.ownsRow wa.heap.size 42 4 (.slice ao' m cap') m (evals (es.map turn)) := hd 6 18 (by kernel_rfl)
      have d1 : b.eval (.tmp 15) = .slice ao m cap := hd 3 15 (by kernel_rfl)
      clear hd hb
      simp only [Oper.wp, execOp]
      go_simp
      simp only [Act.eval, Array.getD_eq_getD_getElem?] at d0 d1
      simp only [d0, d1]
      go_simp
      refine ⟨_, rfl, (Kept.refl _).alloc _, wz.heap.size, ao', cap', rfl, ?_, ?_, ownsK O4 ((Kept.refl _).alloc _)⟩ <;> simp [go_sem]
    · simp only [List.getElem?_toArray, List.getElem?_cons_succ, List.getElem?_cons_zero, Option.some.injEq] at ho
      subst ho
      obtain ⟨bs, ao', cap', d0, k0, k1, O4⟩ : ∃ bs ao' cap', b.eval (.tmp 19) = .slice (some ⟨bs, 0, none⟩) 2 2 ∧ wz.cell? ⟨bs, 0, none⟩ = some (.slice ao m cap) ∧ wz.cell? ⟨bs, 0 + 1, none⟩ = some (.slice ao' m cap') ∧ wz.ownsRow wa.heap.size 42 4 (.slice ao' m cap') m (evals (es.map turn)) := hd 7 19 (by kernel_rfl)
      clear hd hb
      simp only [Oper.wp, execOp]
      go_simp
      simp only [Act.eval, Array.getD_eq_getD_getElem?] at d0
      rw [d0]
      have nil2 : ao' = none → m = 0 ∧ cap' = 0 := fun e => by
        subst e
        rcases O4.2 with ⟨e1, e2⟩ | ⟨g, cp, cur, e1, _⟩
        · simp only [Value.slice.injEq, true_and] at e1; exact ⟨e1.1, e1.2⟩
        · simp at e1
      refine (concat_calls bs ao ao' m m cap cap' es (es.map turn) wz k0 k1 (HE1.out.kept KZ) (ERow.of_owns O4) hm4 hm4 hnil.out nil2).mono ?_
      rintro e wd ⟨ao2, cap2, rfl, O5, K5⟩
      exact ⟨_, rfl, K5, ao2, cap2, rfl, World.ownsRow.mono O5 KZ.size⟩
    · simp only [List.getElem?_toArray, List.getElem?_cons_succ, List.getElem?_cons_zero, Option.some.injEq] at ho
      subst ho
      obtain ⟨ao2, cap2, d0, O5⟩ : ∃ ao2 cap2, b.eval (.tmp 20) = .slice ao2 (m + m) cap2 ∧ wz.ownsRow wa.heap.size 42 4 (.slice ao2 (m + m) cap2) (m + m) (evals (both es)) := hd 8 20 (by kernel_rfl)
      have d1 : b.eval (.tmp 13) = .int .i64 (n : Int) := hd 1 13 (by kernel_rfl)
      clear hd hb
      simp only [Oper.wp, execOp]
      go_simp
      simp only [Act.eval, Array.getD_eq_getD_getElem?] at d0 d1
      simp only [d0, d1]
      go_simp
      exact ⟨_, rfl, Kept.refl _, ao2, cap2, rfl, O5⟩
    · simp only [List.getElem?_toArray, List.getElem?_cons_succ, List.getElem?_cons_zero, Option.some.injEq] at ho
      subst ho
      have hz := KZ.size
      clear hd hb
      simp only [Oper.wp, execOp]
      go_simp
      exact ⟨_, rfl, (Kept.refl _).alloc _, wz.heap.size, rfl, hz, by simp, heap_alloc_new wz _⟩
  case refine_3 =>
    intro vs wz hK hf
    obtain ⟨ao2, cap2, d9, O5⟩ : ∃ ao2 cap2, vs 9 = .agg #[.int .i64 (n : Int), .slice ao2 (m + m) cap2] ∧ wz.ownsRow wa.heap.size 42 4 (.slice ao2 (m + m) cap2) (m + m) (evals (both es)) := hf 9 (by decide)
    obtain ⟨b, d10, hb0, hb1, hb2⟩ : ∃ b, vs 10 = .pointer (some ⟨b, 0, none⟩) ∧ wa.heap.size ≤ b ∧ b < wz.heap.size ∧ wz.heap[b]? = some (Obj.cells #[.int .i64 0, .slice none 0 0] 24) := hf 10 (by decide)
    clear hf
    have KZ : Kept wa wz := ((Kept.refl wa).drewN 1).trans hK
    have z0 : wz.cell? ⟨b, 0, none⟩ = some (.int .i64 0) := by simp [World.cell?, hb2]
    have z1 : wz.cell? ⟨b, 1, none⟩ = some (.slice none 0 0) := by simp [World.cell?, hb2]
    have y0 : wz.frozen? ⟨b, 0, none⟩ = false := by simp [World.frozen?, hb2]
    have y1 : wz.frozen? ⟨b, 1, none⟩ = false := by simp [World.frozen?, hb2]
    have neb : ∀ k, (Value.slice ao2 (m + m) cap2).ownBlock = some k → ¬ k = b := fun k e ek => by
      subst ek
      rcases O5.2 with ⟨e1, _⟩ | ⟨g, cp, cur, e1, _, h3, _⟩
      · rw [e1] at e; simp [Value.ownBlock] at e
      · rw [e1] at e
        simp only [Value.ownBlock, Option.some.injEq] at e
        subst e
        rw [hb2] at h3
        simp at h3
    have CS : Ch (fun k => k = b) wz ((wz.setCell ⟨b, 0, none⟩ (.int .i64 (n : Int))).setCell ⟨b, 1, none⟩ (.slice ao2 (m + m) cap2)) := ((Ch.refl (fun k => k = b) wz).setCell (F := fun k => k = b) (p := ⟨b, 0, none⟩) rfl _).setCell (F := fun k => k = b) (p := ⟨b, 1, none⟩) rfl _
    have O6 := hid_of (CS.owns O5 neb)
    have K6 := hid_of (KZ.ch CS (fun k t => by omega))
    have c0 : ((wz.setCell ⟨b, 0, none⟩ (.int .i64 (n : Int))).setCell ⟨b, 1, none⟩ (.slice ao2 (m + m) cap2)).cell? ⟨b, 0, none⟩ = some (.int .i64 (n : Int)) := by simp [go_sem, z0]
    have c1 : ((wz.setCell ⟨b, 0, none⟩ (.int .i64 (n : Int))).setCell ⟨b, 1, none⟩ (.slice ao2 (m + m) cap2)).cell? ⟨b, 1, none⟩ = some (.slice ao2 (m + m) cap2) := by simp [go_sem, z1]
    have x0 := K6.out.cell g0
    constructor
    simp only [List.length_cons, List.length_nil, List.getElem?_toArray, List.getElem?_cons_succ, List.getElem?_cons_zero, Nat.zero_add, Nat.reduceAdd, Fact.putsL, d9, d10]
    go_simp
    generalize hW6 : (wz.setCell ⟨b, 0, none⟩ (.int .i64 (n : Int))).setCell ⟨b, 1, none⟩ (.slice ao2 (m + m) cap2) = W6 at *
    clear hW6 z0 z1 y0 y1 hb2 neb CS O5 KZ hK hfd hfg hb1 d9 d10
    obtain ⟨hNM, cnt, hNum⟩ := parts_num hrg.out
    have HNM := hid_of hNM
    have HNUM := hid_of hNum
    have hbl : (both es).length = m + m := by unfold both; rw [List.length_append, List.length_map, ← HL.out]
    have HBL := hid_of hbl
    clear hNM hNum hbl
    go_wp2_with fail
    refine Ord.region [(0, 0), (1, 1), (3, 1), (2, 2), (4, 2), (5, 2), (6, 0), (7, 0)] (fun w' => Kept W6 w') (by kernel_rfl) (by kernel_rfl) (by kernel_rfl) (by kernel_rfl) (fun _ _ d _ _ h => by cases d <;> exact h) ((Kept.refl _).drewN _) ?_
    repeat
      refine Ord.step rfl (fun Ko hK => ?_)
      simp only [Ord.body]
      go_simp
      first
        | (refine hK _ _ ?_; clear hK Ko)
        | (refine ⟨_, fun w' hS => (by have e0 := hS.cell x0; simp only [e0, Result.andThen]; rfl), hK _ _ ?_⟩; clear hK Ko)
        | (refine ⟨_, fun w' hS => (by have e0 := hS.cell c0; have e1 := hS.cell c1; simp only [e0, e1, Result.andThen]; rfl), hK _ _ ?_⟩; clear hK Ko)
        | (go_at_call 36; refine (upTo_calls n hn _).mono ?_; rintro r w2 ⟨gr, rfl, I2, K2, hgr⟩; have K2' := ((Kept.refl W6).drewN 1).trans K2; refine ⟨K2', hK _ _ ?_⟩; clear hK Ko)
        | (go_at_call 29; refine (next_calls n hn ao2 (m + m) cap2 (both es) _ (ERow.of_owns (ownsK O6.out K2')) (by omega) (fun e he => ⟨(both_rg hrg.out e he).1, (both_rg hrg.out e he).2.1⟩)).mono ?_; rintro r w3 ⟨q, rfl, N3, K3⟩; have K3' := K2'.trans K3; refine ⟨K3', hK _ _ ?_⟩; clear hK Ko)
        | (go_at_call 39; rw [← HBL.out] at N3; refine (partsFrom_calls n hn (nxt (both es) (both es).length) (fun v hv => Nat.le_trans (nxt_len (both es) _ v) (by rw [HBL.out]; omega)) (fun v hv t ht => (by obtain ⟨e, he, _, rfl⟩ := nxt_mem ht; have := both_rg hrg.out e he; omega)) (List.range n) (by show _ = _; simp) (fun r hr => by simpa using hr) (some ⟨gr, 0, none⟩) n _ (JRow.upTo (I2.kept K3) (by omega)) q (N3.reads (F := fun _ => False) (fun k t => t.elim)).1 (by obtain ⟨_, r, _⟩ := N3.ex; exact r.lt) HNM).mono ?_; rintro r w4 ⟨g, rfl, I4, K4, hg⟩; have K4' := K3'.trans K4; refine ⟨K4', hK _ _ ?_⟩; clear hK Ko)
    refine Ord.done ?_
    have FI := hid_of I4
    have FK := hid_of (KA.out.trans (K6.out.trans K4'))
    have hgw : w.heap.size ≤ g := Nat.le_trans (KA.out.trans (K6.out.trans K3')).size hg
    clear I4 I2 N3 K2 K3 K4 K2' K3' K4'
    go_wp2_with fail
    go_ret2
    exact ⟨g, _, cnt, rfl, FI.out, HNUM.out, hgw, FK.out⟩
end Go.Proofs.Ytjheiaegpoppaaa

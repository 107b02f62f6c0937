/- Admit, in the program: the whole. -/
import Derived.Test.YtnjnmgpjohfjiabDoorAdmitB
import Derived.OwnWalk
import Derived.Laws.AppendOwn
import Derived.Deep.RegionWith
namespace Go.Proofs.YtnjnmgpjohfjiabDoor
open Go.RowKit

/-- A row of whole numbers. -/
structure ZRow (w : World) (ao : Option Addr) (n cap : Nat) (zs : List Int) : Prop where
  len : n = zs.length
  room : n ≤ cap
  most : cap ≤ maxLen
  cell : 0 < n → ∃ b off, ao = some ⟨b, off, none⟩ ∧ ∀ i, i < n → w.cell? ⟨b, off + i, none⟩ = some (.int .i64 (zs.getD i 0))

theorem ZRow.kept {w w' : World} {ao : Option Addr} {n cap : Nat} {zs : List Int} (h : ZRow w ao n cap zs) (k : Kept w w') : ZRow w' ao n cap zs :=
  ⟨h.len, h.room, h.most, fun hn => by
    obtain ⟨b, off, e, hc⟩ := h.cell hn
    exact ⟨b, off, e, fun i hi => k.cell (hc i hi)⟩⟩

theorem ZRow.box2w {w : World} {B G n cap : Nat} {zs : List Int} (h : ZRow w (some ⟨G, 0, none⟩) n cap zs) (hne : B ≠ G) (u0 u1 : Value) : ZRow ((w.setCell ⟨B, 0, none⟩ u0).setCell ⟨B, 1, none⟩ u1) (some ⟨G, 0, none⟩) n cap zs :=
  ⟨h.len, h.room, h.most, fun hn => by
    obtain ⟨b, off, e, hc⟩ := h.cell hn
    simp only [Option.some.injEq, Addr.mk.injEq, and_true] at e
    obtain ⟨rfl, rfl⟩ := e
    refine ⟨G, 0, rfl, fun i hi => ?_⟩
    rw [World.cell?_setCell_other _ _ _ _ (by intro e; exact hne (congrArg Addr.block e)), World.cell?_setCell_other _ _ _ _ (by intro e; exact hne (congrArg Addr.block e))]
    exact hc i hi⟩

def zvals (zs : List Int) : List Value := zs.map (Value.int .i64)
theorem zvals_get (zs : List Int) (i : Nat) (h : i < zs.length) : (zvals zs)[i]? = some (.int .i64 (zs.getD i 0)) := by simp [zvals, List.getD, h]
theorem zvals_set (zs : List Int) (i : Nat) (x : Int) : (zvals zs).set i (.int .i64 x) = zvals (zs.set i x) := by simp [zvals, List.map_set]
theorem zvals_snoc (zs : List Int) (x : Int) : zvals zs ++ [.int .i64 x] = zvals (zs ++ [x]) := by simp [zvals]

theorem ZRow.of_owns {w : World} {base e : Nat} {ao : Option Addr} {n cap : Nat} {zs : List Int} (h : w.ownsRow base e 1 (.slice ao n cap) zs.length (zvals zs)) (hn : n = zs.length) : ZRow w ao n cap zs := by
  subst hn
  rcases h.2 with ⟨h1, h2⟩ | ⟨g, cap', cur, h1, _, _, hnc, hm, _⟩
  · simp only [Value.slice.injEq] at h1
    obtain ⟨_, h3, rfl⟩ := h1
    exact ⟨rfl, by omega, by unfold maxLen; omega, fun hp => by omega⟩
  · simp only [Value.slice.injEq, true_and] at h1
    obtain ⟨rfl, rfl⟩ := h1
    refine ⟨rfl, hnc, hm, fun _ => ⟨g, 0, rfl, fun i hi => ?_⟩⟩
    rw [Nat.zero_add, h.cellAt i (by omega), zvals_get zs i hi]

def wideAt (ds : List Nat) (e most : Int) (j : Nat) : Bool := decide (most < (wmag (ds.getD j 0) e : Int))

/-- What Admit answers: the numbers, the exponent, the code, the place. -/
def admitOf (ds : List Nat) (most : Int) : List Int × Int × Int × Int :=
  if most < 1 ∨ 9007199254740992 < most then ([], 0, 1, 0)
  else if (unfitOf ds).1 ≠ 0 then ([], 0, (unfitOf ds).1, (unfitOf ds).2)
  else match firstOf (wideAt ds (comTo ds ds.length).2 most) ds.length with
    | some j => ([], 0, 22, (j : Int))
    | none => (ds.map (fun x => wnum x (comTo ds ds.length).2), (comTo ds ds.length).2, 0, 0)

theorem unfit_all (ds : List Nat) (h : (unfitOf ds).1 = 0) : ∀ j, j < ds.length → fcls (ds.getD j 0) = 0 := by
  intro j hj
  unfold unfitOf at h
  cases e : firstOf (wrongAt ds) ds.length with
  | some k => rw [e] at h; simp only at h; split at h <;> omega
  | none =>
    unfold firstOf at e
    rw [List.find?_eq_none] at e
    have := e j (by rw [List.mem_range]; exact hj)
    unfold wrongAt at this
    simpa using this

theorem admit_wide (ds : List Nat) (most : Int) (h1 : ¬ most < 1) (h2 : ¬ 9007199254740992 < most) (hu : (unfitOf ds).1 = 0) :
    ∀ j, firstOf (wideAt ds (comTo ds ds.length).2 most) ds.length = some j → admitOf ds most = ([], 0, 22, (j : Int)) := by
  intro j hj
  unfold admitOf
  rw [if_neg (by omega), if_neg (by omega), hj]
theorem admit_fits (ds : List Nat) (most : Int) (h1 : ¬ most < 1) (h2 : ¬ 9007199254740992 < most) (hu : (unfitOf ds).1 = 0) :
    firstOf (wideAt ds (comTo ds ds.length).2 most) ds.length = none → admitOf ds most = (ds.map (fun x => wnum x (comTo ds ds.length).2), (comTo ds ds.length).2, 0, 0) := by
  intro hj
  unfold admitOf
  rw [if_neg (by omega), if_neg (by omega), hj]

theorem lt_of_cell1 {w : World} {p : Addr} {v : Value} (h : w.cell? p = some v) : p.block < w.heap.size := by
  simp only [World.cell?] at h
  by_cases hlt : p.block < w.heap.size
  · exact hlt
  · rw [Array.getElem?_eq_none (by omega)] at h
    simp at h

theorem infoZ0 : (Tryd.prog.info? 2).map (fun i => (i.zero, i.size, i.bytes)) = some (some (.int .i64 0), 1, 8) := by kernel_rfl

/-- The state of the loop behind k labels. -/
structure ALoop (W : World) (n : Nat) (ds : List Nat) (e : Int) (k : Nat) (wr : World) : Prop where
  ex : ∃ zs : List Int, zs.length = n ∧ (∀ j, j < k → zs.getD j 0 = wnum (ds.getD j 0) e) ∧ wr.ownsRow W.heap.size 2 1 (.slice (some ⟨W.heap.size, 0, none⟩) n n) n (zvals zs)
  kept : Kept W wr

theorem ALoop.step {W : World} {n : Nat} {ds : List Nat} {e : Int} {k : Nat} {wr : World} (h : ALoop W n ds e k wr) (hk : k < n) :
    ALoop W n ds e (k + 1) (wr.setCell ⟨W.heap.size, k, none⟩ (.int .i64 (wnum (ds.getD k 0) e))) := by
  obtain ⟨zs, h1, h2, h3⟩ := h.ex
  obtain ⟨o1, g1⟩ := h3.stored k (.int .i64 (wnum (ds.getD k 0) e))
  rw [zvals_set] at o1
  refine ⟨⟨zs.set k (wnum (ds.getD k 0) e), by simp [h1], fun j hj => ?_, o1⟩, ?_⟩
  · by_cases c : j = k
    · subst c; simp [List.getD, h1, hk]
    · have : (zs.set k (wnum (ds.getD k 0) e)).getD j 0 = zs.getD j 0 := by simp only [List.getD]; rw [List.getElem?_set_ne (by omega)]
      rw [this]; exact h2 j (by omega)
  · exact Below.grown h.kept g1 h.kept.size fun b hb => by
      simp only [Option.some.injEq] at hb
      rw [← hb]
      exact (h3.lt _ rfl).1

theorem ALoop.cells {W : World} {n : Nat} {ds : List Nat} {e : Int} {k : Nat} {wr : World} (h : ALoop W n ds e k wr) (hk : k < n) : (∃ v, wr.cell? ⟨W.heap.size, k, none⟩ = some (.int .i64 v)) ∧ wr.frozen? ⟨W.heap.size, k, none⟩ = false := by
  obtain ⟨zs, h1, h2, h3⟩ := h.ex
  refine ⟨⟨zs.getD k 0, ?_⟩, h3.frozenAt k⟩
  rw [h3.cellAt k (by omega), zvals_get zs k (by omega)]

theorem ALoop.done {W : World} {n : Nat} {ds : List Nat} {e : Int} {wr : World} (h : ALoop W n ds e n wr) (hn : n = ds.length) : ZRow wr (some ⟨W.heap.size, 0, none⟩) n n (ds.map fun x => wnum x e) := by
  obtain ⟨zs, h1, h2, h3⟩ := h.ex
  have ez : zs = ds.map fun x => wnum x e := by
    refine List.ext_getElem (by simp; omega) fun i hi hi2 => ?_
    have := h2 i (by omega)
    have hd : i < ds.length := by omega
    simp only [List.getD, List.getElem?_eq_getElem hi, List.getElem?_eq_getElem hd, Option.getD_some] at this
    rw [this]; simp
  rw [← ez]
  exact ZRow.of_owns (by rw [h1]; exact h3) h1.symm

theorem made_z (n : Nat) : (madeCells #[Value.int .i64 0] n).toList = zvals (List.replicate n 0) := by
  rw [toList_madeCells_one]
  simp [zvals]

set_option maxRecDepth 100000 in
set_option maxHeartbeats 4000000 in
theorem admit_calls (ao : Option Addr) (n cap : Nat) (ds : List Nat) (most : Int) (w : World) (h : FRow w ao n cap ds) (hw : ∀ i, ds.getD i 0 < 18446744073709551616) (hT : Tab w) (hn8 : n * 8 ≤ 140737488355328)
    (ns : List Int) (e c a : Int) (hA : Hid (admitOf ds most = (ns, e, c, a))) :
    Calls Tryd.prog 8 #[.slice ao n cap, .int .i64 most] w fun v w' => (∃ ao' cap', v = .returned (.tuple #[.slice ao' ns.length cap', .int .i64 e, .agg #[.int .i64 c, .int .i64 a]]) ∧ ZRow w' ao' ns.length cap' ns) ∧ Kept w w' := by
  have hl1 : n ≤ ds.length := Nat.le_of_eq h.len
  have hl2 : ds.length ≤ n := Nat.le_of_eq h.len.symm
  have hr := h.room
  have hm := h.most
  unfold maxLen at hm
  have znil : ∀ w : World, ZRow w none 0 0 [] := fun w => ⟨rfl, Nat.le_refl _, by unfold maxLen; omega, fun h => by omega⟩
  by_cases hr1 : most < 1
  · obtain ⟨rfl, rfl, rfl, rfl⟩ : ns = [] ∧ e = 0 ∧ c = 1 ∧ a = 0 := by
      have := hA.out
      unfold admitOf at this
      rw [if_pos (.inl hr1)] at this
      simp only [Prod.mk.injEq] at this
      exact ⟨this.1.symm, this.2.1.symm, this.2.2.1.symm, this.2.2.2.symm⟩
    have Z := hid_of znil
    clear hA znil
    go_enter Tryd.func8, Tryd.ntmps8
    go_wp2
    refine bodyPost_ret (v := .tuple #[.slice none 0 0, .int .i64 0, .agg #[.int .i64 1, .int .i64 0]]) (by simp [results, Tryd.results8, go_sem]) rfl ⟨⟨none, 0, rfl, Z.out _⟩, (Kept.refl _).alloc _⟩
  by_cases hr2 : 9007199254740992 < most
  · obtain ⟨rfl, rfl, rfl, rfl⟩ : ns = [] ∧ e = 0 ∧ c = 1 ∧ a = 0 := by
      have := hA.out
      unfold admitOf at this
      rw [if_pos (.inr hr2)] at this
      simp only [Prod.mk.injEq] at this
      exact ⟨this.1.symm, this.2.1.symm, this.2.2.1.symm, this.2.2.2.symm⟩
    have Z := hid_of znil
    clear hA znil
    go_enter Tryd.func8, Tryd.ntmps8
    go_wp2
    refine bodyPost_ret (v := .tuple #[.slice none 0 0, .int .i64 0, .agg #[.int .i64 1, .int .i64 0]]) (by simp [results, Tryd.results8, go_sem]) rfl ⟨⟨none, 0, rfl, Z.out _⟩, (Kept.refl _).alloc _⟩
  obtain ⟨c', a', hu⟩ : ∃ c' a', unfitOf ds = (c', a') := ⟨_, _, rfl⟩
  have U := hid_of hu
  have KW : Kept w (w.alloc (Obj.cells #[.int .i64 0, .int .i64 0] 27)) := (Kept.refl w).alloc _
  have hF := h.kept KW
  by_cases hc0 : c' ≠ 0
  · obtain ⟨rfl, rfl, rfl, rfl⟩ : ns = [] ∧ e = 0 ∧ c = c' ∧ a = a' := by
      have := hA.out
      unfold admitOf at this
      rw [if_neg (by omega), hu, if_pos hc0] at this
      simp only [Prod.mk.injEq] at this
      exact ⟨this.1.symm, this.2.1.symm, this.2.2.1.symm, this.2.2.2.symm⟩
    have Z := hid_of znil
    have q1 : (c != 0) = true := by simpa using hc0
    clear hA znil hu hc0
    go_enter Tryd.func8, Tryd.ntmps8
    go_wp2_with fail
    refine (unfit_calls _ _ _ ds _ hF hw c a U).mono ?_
    rintro v wa ⟨rfl, K1⟩
    obtain ⟨q2, q3, q4, q5, q6⟩ := box2 K1
    go_wp2_with fail
    go_region_with fail
    all_goals go_wp2
    all_goals
      obtain ⟨r1, r2, r3, r4⟩ := box2w q2 q3 (.int .i64 c) (.int .i64 a)
      refine bodyPost_ret (v := .tuple #[.slice none 0 0, .int .i64 0, .agg #[.int .i64 c, .int .i64 a]]) (by simp [results, Tryd.results8, go_sem, r3, r4, q6]) rfl ⟨⟨none, 0, rfl, Z.out _⟩, ?_⟩
      exact (Kept.alloc (Kept.setCell (Kept.setCell (KW.trans K1) (Nat.le_refl _) _) (Nat.le_refl _) _) _).drew
  · obtain rfl : c' = 0 := by omega
    have hall := unfit_all ds (by rw [hu])
    obtain ⟨E, hE⟩ : ∃ E, (comTo ds ds.length).2 = E := ⟨_, rfl⟩
    have hEb := comTo_bd ds ds.length
    have hEl := comTo_least ds ds.length
    rw [hE] at hEb hEl
    have hA1 := admit_wide ds most hr1 hr2 (by rw [hu])
    have hA2 := admit_fits ds most hr1 hr2 (by rw [hu])
    rw [hE] at hA1 hA2
    have HA1 := hid_of hA1
    have HA2 := hid_of hA2
    clear hA1 hA2
    have hCm : Hid (∀ w : World, FRow w ao n cap ds → Tab w → Calls Tryd.prog 18 #[.slice ao n cap] w fun e w' => e = .returned (.int .i64 E) ∧ w = w') := fun w f t => by
      have := common_calls ao n cap ds w f hw t
      have hcn : (comTo ds n).2 = E := by rw [h.len]; exact hE
      rw [hcn] at this
      exact this
    have HALL := hid_of hall
    have HEL := hid_of hEl
    obtain ⟨b1, b2⟩ := hEb
    obtain ⟨i0, hi, hz0, hz1, hz2⟩ := info_parts infoZ0
    have Z := hid_of znil
    clear hu hall hEl hE hc0 znil
    have m1 : 1 ≤ most := by omega
    have m2 : most ≤ 9007199254740992 := by omega
    go_enter Tryd.func8, Tryd.ntmps8
    go_wp2_with fail
    refine (unfit_calls _ _ _ ds _ hF hw 0 a' U).mono ?_
    rintro v wa ⟨rfl, K1⟩
    obtain ⟨q2, q3, q4, q5, q6⟩ := box2 K1
    have KA : Kept w wa := KW.trans K1
    have KB : Kept w (wa.alloc (Obj.cells #[.int .i64 0, .int .i64 a'] 27)) := KA.alloc _
    go_wp2_with fail
    refine (hCm.out _ (h.kept KB) (hT.kept KB)).mono ?_
    rintro v w' ⟨rfl, rfl⟩
    obtain ⟨W, hWe⟩ : ∃ W, wa.alloc (Obj.cells #[.int .i64 0, .int .i64 a'] 27) = W := ⟨_, rfl⟩
    have hWs : wa.heap.size + 1 = W.heap.size := by rw [← hWe]; simp
    rw [hWe] at KB
    have w0 : W.cell? ⟨w.heap.size, 0, none⟩ = some (.int .i64 0) := by rw [← hWe]; exact ((Kept.refl wa).alloc _).cell q2
    have w1 : W.cell? ⟨w.heap.size, 1, none⟩ = some (.int .i64 0) := by rw [← hWe]; exact ((Kept.refl wa).alloc _).cell q3
    have w2 : W.frozen? ⟨w.heap.size, 0, none⟩ = false := by
      rw [← hWe]; exact (Below.frozen (p := ⟨w.heap.size, 0, none⟩) ((Kept.refl wa).alloc _) (lt_of_cell1 q2)).trans q4
    have w3 : W.frozen? ⟨w.heap.size, 1, none⟩ = false := by
      rw [← hWe]; exact (Below.frozen (p := ⟨w.heap.size, 1, none⟩) ((Kept.refl wa).alloc _) (lt_of_cell1 q3)).trans q5
    have HWE := hid_of hWe
    clear hWe q2 q3 q4 q5 K1 KA
    go_wp2_with (at_make; (rw [HWE.out]); refine wpList_make_full _ rfl _ _ 24 rfl W.heap.size 2 i0 (.int .i64 0) 1 Tryd.underlying24 hi hz0 hz1 .i64 .i64 _ _ n rfl rfl (by omega) (by omega) (by rw [hz2]; omega) (by unfold maxLen; omega) (Nat.le_refl _) ?_)
    intro W1 hown hgrow
    have L0 : ALoop W n ds E 0 W1 := ⟨⟨List.replicate n 0, by simp, fun j hj => by omega, by rw [← made_z]; exact hown⟩, Below.grown (Kept.refl _) hgrow (Nat.le_refl _) (fun k e => by simp at e)⟩
    clear hown hgrow
    have hnot : ∀ (x : Bool) (w : World), (Op.unary .not (.bool x)).run Tryd.prog w = .ok (.bool (!x)) w := fun _ _ => rfl
    go_wp2_with fail
    go_loopw [34] (fun i wr => ∃ (k : Nat), k ≤ n ∧ i = .int .i64 k ∧ ALoop W n ds E k wr ∧ ∀ j, j < k → wideAt ds E most j = false) (fun i _ => n - (intOf i).toNat)
    case atStart => exact ⟨0, by omega, rfl, L0, fun j hj => by omega⟩
    case round =>
      obtain ⟨k, hk, rfl, R, hno⟩ := hrel
      clear L0
      have HNO := hid_of hno
      clear hno
      have KR := R.kept
      have r0 := KR.cell w0
      have r1 := KR.cell w1
      have r2 : wr.frozen? ⟨w.heap.size, 0, none⟩ = false := (Below.frozen (p := ⟨w.heap.size, 0, none⟩) KR (lt_of_cell1 w0)).trans w2
      have r3 : wr.frozen? ⟨w.heap.size, 1, none⟩ = false := (Below.frozen (p := ⟨w.heap.size, 1, none⟩) KR (lt_of_cell1 w1)).trans w3
      have KX : Kept w wr := KB.trans KR
      by_cases hgo : (k : Int) < (n : Int)
      · obtain ⟨b, off, rfl, hc⟩ := h.cell (by omega)
        have hcx := KX.cell (hc k (by omega))
        have hcls := HALL.out k (by omega)
        have hnn : ¬ Fl.nan (ds.getD k 0) := fun t => by have := fcls_nan (ds.getD k 0); rw [hcls, decide_eq_true t] at this; cases this
        have hle : podd (ds.getD k 0) ≠ 0 → E ≤ pexp (ds.getD k 0) := fun t => (HEL.out k (by omega) t).2
        by_cases hwide : wideAt ds E most k = true
        · obtain ⟨rfl, rfl, rfl, rfl⟩ : ns = [] ∧ e = 0 ∧ c = 22 ∧ a = (k : Int) := by
            have h1 := HA1.out k (firstOf_some (by omega) hwide HNO.out)
            rw [h1] at hA
            have h2 := hA.out
            simp only [Prod.mk.injEq] at h2
            exact ⟨h2.1.symm, h2.2.1.symm, h2.2.2.1.symm, h2.2.2.2.symm⟩
          have WC := hid_of (fun (w : World) (t : Tab w) => wholeOf_calls (ds.getD k 0) E most w (hw k) hnn b1 b2 hle m1 m2 t 0 false (Or.inr ⟨of_decide_eq_true hwide, rfl, rfl⟩))
          have TX := hT.kept KX
          clear hA HA1 HA2 hwide hle hnn hcls hc HALL HEL
          generalize ds.getD k 0 = x at hcx WC
          obtain ⟨s1, s2, s3, s4⟩ := box2w r0 r1 (.int .i64 22) (.int .i64 (k : Int))
          go_wp2_with (go_at_call 19; refine (WC.out _ TX).mono ?_; rintro v w' ⟨rfl, rfl⟩)
          refine bodyPost_ret (v := .tuple #[.slice none 0 0, .int .i64 0, .agg #[.int .i64 22, .int .i64 (k : Int)]]) (by simp [results, Tryd.results8, go_sem, s3, s4]) rfl ⟨⟨none, 0, rfl, Z.out _⟩, ?_⟩
          exact (KX.setCell (Nat.le_refl _) _).setCell (Nat.le_refl _) _
        · have hwide' : wideAt ds E most k = false := by simpa using hwide
          have hfit : (wmag (ds.getD k 0) E : Int) ≤ most := by have := of_decide_eq_false hwide'; omega
          have WC := hid_of (fun (w : World) (t : Tab w) => wholeOf_calls (ds.getD k 0) E most w (hw k) hnn b1 b2 hle m1 m2 t (wnum (ds.getD k 0) E) true (Or.inl ⟨hfit, rfl, rfl⟩))
          have TX := hT.kept KX
          obtain ⟨⟨ov, g0⟩, g1⟩ := R.cells (k := k) (by omega)
          have ST := hid_of (R.step (by omega))
          have NN : Hid (∀ j, j < k + 1 → wideAt ds E most j = false) := fun j hj => by
            by_cases q : j = k
            · subst q; exact hwide'
            · exact HNO.out j (by omega)
          clear hwide hwide' hle hnn hcls hc hfit HALL HEL HA1 HA2 R
          generalize wnum (ds.getD k 0) E = y at WC ST
          generalize ds.getD k 0 = x at hcx WC
          go_wp2_with (go_at_call 19; refine (WC.out _ TX).mono ?_; rintro v w' ⟨rfl, rfl⟩)
          go_roundw
          case rel => exact ⟨k + 1, by omega, by go_num, ST.out, NN.out⟩
          case measure => simp [intOf]; omega
      · obtain rfl : k = n := by omega
        have hnone : firstOf (wideAt ds E most) ds.length = none := firstOf_none (fun i hi => HNO.out i (by omega))
        obtain ⟨rfl, rfl, rfl, rfl⟩ : ns = (ds.map fun x => wnum x E) ∧ e = E ∧ c = 0 ∧ a = 0 := by
          have h1 := HA2.out hnone
          rw [h1] at hA
          have h2 := hA.out
          simp only [Prod.mk.injEq] at h2
          exact ⟨h2.1.symm, h2.2.1.symm, h2.2.2.1.symm, h2.2.2.2.symm⟩
        have D := R.done h.len
        have hlen : (ds.map fun x => wnum x e).length = k := by simp; omega
        obtain ⟨s1, s2, s3, s4⟩ := box2w r0 r1 (.int .i64 0) (.int .i64 0)
        have HD := hid_of D
        clear hA HA1 HA2 hnone HALL HEL D R
        have hWw : w.heap.size < W.heap.size := lt_of_cell1 w0
        go_wp2
        refine bodyPost_ret (v := .tuple #[.slice (some ⟨W.heap.size, 0, none⟩) k k, .int .i64 e, .agg #[.int .i64 0, .int .i64 0]]) (by simp [results, Tryd.results8, go_sem, s3, s4]) rfl ⟨⟨some ⟨W.heap.size, 0, none⟩, k, ?_, ?_⟩, ?_⟩
        · first | rfl | (rw [hlen])
        · first | exact HD.out.box2w (by omega) _ _ | (rw [hlen]; exact HD.out.box2w (by omega) _ _)
        · exact (KX.setCell (Nat.le_refl _) _).setCell (Nat.le_refl _) _
end Go.Proofs.YtnjnmgpjohfjiabDoor

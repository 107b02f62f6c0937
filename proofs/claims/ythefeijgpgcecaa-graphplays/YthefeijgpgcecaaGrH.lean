/- CutNode. -/
import Derived.Test.YthefeijgpgcecaaGrG
namespace Go.Proofs.Ythefeijgpgcecaa
open Go.RowKit

/-- The first k edges turned by a function. -/
def mapTo (f : Ed → Ed) (es : List Ed) (k : Nat) : List Ed := (es.take k).map f ++ es.drop k
theorem mapTo_zero (f : Ed → Ed) (es : List Ed) : mapTo f es 0 = es := by simp [mapTo]
theorem mapTo_all (f : Ed → Ed) (es : List Ed) : mapTo f es es.length = es.map f := by simp [mapTo]
theorem mapTo_len (f : Ed → Ed) (es : List Ed) (k : Nat) : (mapTo f es k).length = es.length := by simp [mapTo]; omega
theorem mapTo_succ (f : Ed → Ed) (es : List Ed) (k : Nat) (hk : k < es.length) : mapTo f es (k + 1) = (mapTo f es k).set k (f (edAt es k)) := by
  unfold mapTo
  have l : ((es.take k).map f).length = k := by simp; omega
  have e1 : edAt es k = es[k] := by simp [edAt, List.getD, hk]
  rw [List.set_append_right _ _ (by omega), l, Nat.sub_self, List.drop_eq_getElem_cons hk, List.set_cons_zero, List.take_succ_eq_append_getElem hk, List.map_append, List.append_assoc, e1]
  rfl
theorem mapTo_at (f : Ed → Ed) (es : List Ed) (k : Nat) (hk : k < es.length) : edAt (mapTo f es k) k = edAt es k := by
  unfold edAt mapTo
  have l : ((es.take k).map f).length = k := by simp; omega
  simp only [List.getD]
  rw [List.getElem?_append_right (by omega), l, Nat.sub_self, List.getElem?_drop]
  simp

/-- An edge when a node is gone. -/
def mvEd (v : Int) (e : Ed) : Ed := ⟨moveOf v e.f, moveOf v e.t, e.c, e.k⟩

/-- What CutNode makes of a graph, and its answer. -/
def cutNodeOf (nodes : Int) (es : List Ed) (v : Int) : Int × List Ed × Int := if ¬ (0 ≤ v ∧ v < nodes) then (nodes, es, 30) else (nodes - 1, (stay v es).map (mvEd v), 0)

theorem stay_mem {v : Int} {es : List Ed} {k : Nat} (hk : k < (stay v es).length) : edAt (stay v es) k ∈ es := by
  have : edAt (stay v es) k ∈ stay v es := by
    have e1 : edAt (stay v es) k = (stay v es)[k] := by simp [edAt, List.getD, hk]
    rw [e1]; exact List.getElem_mem hk
  exact (List.mem_filter.1 this).1

set_option maxRecDepth 100000 in
set_option maxHeartbeats 4000000 in
theorem cutNode_calls (w : World) (F : Nat → Prop) (p : Nat) (nodes : Int) (es : List Ed) (h : NetF w F p nodes es) (hn : es.length ≤ 4096) (h0 : 0 ≤ nodes) (h1 : nodes ≤ 1024) (hr : ∀ e ∈ es, 0 ≤ e.f ∧ e.f ≤ 1024 ∧ 0 ≤ e.t ∧ e.t ≤ 1024) (v : Int) (nodes' : Int) (es' : List Ed) (c : Int) (hs : Hid (cutNodeOf nodes es v = (nodes', es', c))) :
    Calls Try.prog 18 #[.pointer (some ⟨p, 0, none⟩), .int .i64 v] w fun r w' => r = .returned (.int .i64 c) ∧ NetF w' F p nodes' es' ∧ Ch F w w' := by
  have hnot : ∀ (x : Bool) (w : World), (Op.unary .not (.bool x)).run Try.prog w = .ok (.bool (!x)) w := fun _ _ => rfl
  have KG : Kept w (w.alloc (Obj.cells #[.int .i64 v] 3)) := (Kept.refl w).alloc _
  have y0 : (w.alloc (Obj.cells #[.int .i64 v] 3)).cell? ⟨w.heap.size, 0, none⟩ = some (.int .i64 v) := by simp [go_sem]
  have H1 := h.kept KG
  have m0 := H1.c0
  have hss := hs.out
  unfold cutNodeOf at hss
  have nF : Hid (¬ F w.heap.size) := fun t => by have := h.lt _ t; omega
  have HLT := hid_of h.lt
  have KGH := hid_of KG
  have H1H := hid_of H1
  by_cases hv : 0 ≤ v ∧ v < nodes
  · have q : (decide (0 ≤ v) && decide (v < nodes)) = true := by simp [hv]
    have IC : Hid (∀ W' : World, Calls Try.prog 33 #[.int .i64 v, .int .i64 nodes] W' fun e w' => e = .returned (.bool true) ∧ W' = w') := fun W' => by have := isNode_calls v nodes W'; rw [q] at this; exact this
    rw [if_neg (by simp [hv])] at hss
    simp only [Prod.mk.injEq] at hss
    obtain ⟨rfl, rfl, rfl⟩ := hss
    clear q
    clear hs h KG H1
    go_enter Try.func18, Try.ntmps18
    go_wp2_with fail
    generalize hW1 : w.alloc (Obj.cells #[.int .i64 v] 3) = W1 at y0 m0 KGH H1H ⊢
    clear hW1
    refine Ord.region [(0, 1), (1, 0), (2, 0), (3, 0), (4, 0), (5, 1), (6, 2), (7, 0)] (fun w' => Kept W1 w') (by kernel_rfl) (by kernel_rfl) (by kernel_rfl) (by kernel_rfl) (fun _ _ d _ _ h => by cases d <;> exact h) ((Kept.refl _).drewN _) ?_
    repeat
      refine Ord.step rfl (fun Ko hK => ?_)
      simp only [Ord.body]
      go_simp
      first
        | (refine hK _ _ ?_; clear hK Ko)
        | (refine ⟨_, fun w' hS => (by have c0 := hS.cell y0; simp only [c0, Result.andThen]; rfl), hK _ _ ?_⟩; clear hK Ko)
        | (refine ⟨_, fun w' hS => (by have c0 := hS.cell m0; simp only [c0, Result.andThen]; rfl), hK _ _ ?_⟩; clear hK Ko)
        | (go_at_call 33; refine (IC.out _).mono ?_; rintro e wf ⟨rfl, rfl⟩; refine ⟨(Kept.refl _).drewN _, hK _ _ ?_⟩; clear hK Ko)
    refine Ord.done ?_
    have KD : Kept W1 (W1.drewN 1) := (Kept.refl W1).drewN 1
    have H2 := hid_of (H1H.out.kept KD)
    have y2 := KD.cell y0
    have K2H := hid_of (KGH.out.trans KD)
    clear y0 m0 H1H KGH IC KD
    obtain ⟨hv1, hv2⟩ := hv
    obtain ⟨ao, cap, k1, o, n1, f⟩ := H2.out.c1
    obtain ⟨N, hN⟩ : ∃ N, es.length = N := ⟨_, rfl⟩
    rw [hN] at k1 o n1 f hn
    have nbo : (Value.slice ao N cap).ownBlock ≠ some w.heap.size := fun e => nF.out (f _ e)
    have DC := hid_of (delF_calls (W1.drewN 1) ao N cap w.heap.size v es o (hid_of hN) hn y2 nbo)
    have z1 := H2.out.z1
    have HO := hid_of o
    have HFs := hid_of f
    have HN := hid_of hN
    clear o hN f
    go_wp2_with (go_at_call 34; refine DC.out.mono ?_; rintro r w2 ⟨rfl, O2, C2⟩; have O2H := hid_of O2; have C2H := hid_of C2; have k2 := C2.cell k1 n1; have z2 := (C2.frozen (o := 1) (World.block_lt_of_cell? _ _ k1) n1).trans z1; clear O2 C2 DC)
    have npo : ¬ (Value.slice ao N cap).ownBlock = some p := n1
    have ob : (Value.slice ao (stay v es).length cap).ownBlock = (Value.slice ao N cap).ownBlock := by cases ao <;> rfl
    have k3 := World.cell?_setCell_same w2 ⟨p, 1, none⟩ (.slice ao (stay v es).length cap) k2
    have z3 : (w2.setCell ⟨p, 1, none⟩ (.slice ao (stay v es).length cap)).frozen? ⟨p, 1, none⟩ = false := by simpa [go_sem] using z2
    have c3 : (w2.setCell ⟨p, 1, none⟩ (.slice ao (stay v es).length cap)).cell? ⟨p, 0, none⟩ = some (.int .i64 nodes) := by
      rw [World.cell?_setCell_other _ _ _ _ (by simp)]; exact C2H.out.cell H2.out.c0 n1
    have z4 : (w2.setCell ⟨p, 1, none⟩ (.slice ao (stay v es).length cap)).frozen? ⟨p, 0, none⟩ = false := by
      simpa [go_sem] using (C2H.out.frozen (o := 0) (World.block_lt_of_cell? _ _ H2.out.c0) n1).trans H2.out.z0
    have z4q : Hid (∀ q, (w2.setCell ⟨p, 1, none⟩ (.slice ao (stay v es).length cap)).frozen? ⟨p, q, none⟩ = false) := fun q => by
      simpa [go_sem] using (C2H.out.frozen (o := q) (World.block_lt_of_cell? _ _ H2.out.c0) n1).trans (H2.out.zz q)
    have y3 : (w2.setCell ⟨p, 1, none⟩ (.slice ao (stay v es).length cap)).cell? ⟨w.heap.size, 0, none⟩ = some (.int .i64 v) := by
      rw [World.cell?_setCell_other _ _ _ _ (by simp)]; exact C2H.out.cell y2 nbo
    have O3 := hid_of (ownsRow_setCell_other O2H.out (a := ⟨p, 1, none⟩) (by rw [ob]; exact n1) (.slice ao (stay v es).length cap))
    have C3 : Hid (Ch F w (w2.setCell ⟨p, 1, none⟩ (.slice ao (stay v es).length cap))) := ((Ch.of_kept K2H.out).trans (C2H.out.mono (G := F) (fun k t => HFs.out k t))).setCell (p := ⟨p, 1, none⟩) H2.out.own _
    have SM := hid_of (fun k (hk : k < (stay v es).length) => hr _ (stay_mem hk))
    have lT : (stay v es).length ≤ 4096 := by
      have : (stay v es).length ≤ es.length := List.length_filter_le _ _
      rw [HN.out] at this; omega
    clear k1 z1 k2 z2 O2H C2H HO y2
    generalize hW3 : w2.setCell ⟨p, 1, none⟩ (.slice ao (stay v es).length cap) = W3 at k3 z3 c3 z4 z4q y3 O3 C3 ⊢
    clear hW3
    generalize hT : stay v es = T at *
    have HT := hid_of hT
    clear hT
    obtain ⟨M, hM⟩ : ∃ M, T.length = M := ⟨_, rfl⟩
    rw [hM] at k3 O3 lT ob ⊢
    have HM := hid_of hM
    rw [hM] at SM
    clear hM
    have pw : ¬ p = w.heap.size := fun t => nF.out (t ▸ H2.out.own)
    go_loopw [32] (fun i wr => ∃ k : Nat, k ≤ M ∧ i = .int .i64 (k : Int) ∧ wr.ownsRow 0 36 4 (.slice ao M cap) M (evals (mapTo (mvEd v) T k)) ∧ Ch (fun x => (Value.slice ao M cap).ownBlock = some x) W3 wr) (fun i _ => M - (intOf i).toNat)
    case atStart => exact ⟨0, by omega, rfl, by rw [mapTo_zero]; exact O3.out, Ch.refl _ _⟩
    case round =>
      obtain ⟨k, hk, rfl, O, C⟩ := hrel
      have OH := hid_of O
      have CH := hid_of C
      have nbo2 : (Value.slice ao M cap).ownBlock ≠ some w.heap.size := by rw [ob]; exact nbo
      have n2 : (Value.slice ao M cap).ownBlock ≠ some p := by rw [ob]; exact n1
      have k4 := C.cell k3 n2
      have y4 := C.cell y3 nbo2
      have ML := mapTo_len (mvEd v) T k
      rw [HM.out] at ML
      by_cases hgo : (k : Int) < (M : Int)
      · obtain ⟨g, cp, eg, -, -⟩ := O.form (by omega)
        simp only [Value.slice.injEq, true_and] at eg
        obtain ⟨rfl, rfl⟩ := eg
        have npg : ¬ p = g := fun t => n2 (by rw [t]; rfl)
        have nwg : ¬ w.heap.size = g := fun t => nbo2 (by rw [t]; rfl)
        obtain ⟨x1, x2, x3, x4⟩ := evals_get (mapTo (mvEd v) T k) k (by omega)
        rw [mapTo_at _ _ _ (by rw [HM.out]; omega)] at x1 x2 x3 x4
        have d1 := (O.cellAt (k * 4) (by omega)).trans x1
        have d2 := (O.cellAt (k * 4 + 1) (by omega)).trans x2
        have d3 := (O.cellAt (k * 4 + 2) (by omega)).trans x3
        have d4 := (O.cellAt (k * 4 + 3) (by omega)).trans x4
        obtain ⟨s1, s2, s3, s4⟩ := SM.out k (by omega)
        have EV := evals_set (mapTo (mvEd v) T k) k (by omega) (mvEd v (edAt T k)) (by rw [mapTo_at _ _ _ (by rw [HM.out]; omega)]; rfl) (by rw [mapTo_at _ _ _ (by rw [HM.out]; omega)]; rfl)
        rw [← mapTo_succ _ _ _ (by rw [HM.out]; omega)] at EV
        have EVH := hid_of EV
        clear x1 x2 x3 x4 EV O C ML
        generalize edAt T k = e at d1 d2 d3 d4 s1 s2 s3 s4 EVH
        obtain ⟨ef, et, ec, ek⟩ := e
        simp only [mvEd] at d1 d2 d3 d4 s1 s2 s3 s4 EVH
        have w1c := hid_of (fun W' => without_calls v ef W' (by omega) (by omega))
        have w2c := hid_of (fun W' => without_calls v et W' (by omega) (by omega))
        have KA := (Kept.refl wr).alloc (Obj.cells #[.int .i64 ef, .int .i64 et, .int .i64 ec, .int .i64 ek] 36)
        have e0 : (wr.alloc (Obj.cells #[.int .i64 ef, .int .i64 et, .int .i64 ec, .int .i64 ek] 36)).cell? ⟨wr.heap.size, 0, none⟩ = some (.int .i64 ef) := by simp [go_sem]
        have e1 : (wr.alloc (Obj.cells #[.int .i64 ef, .int .i64 et, .int .i64 ec, .int .i64 ek] 36)).cell? ⟨wr.heap.size, 1, none⟩ = some (.int .i64 et) := by simp [go_sem]
        have k5 := KA.cell k4
        have y5 := KA.cell y4
        have d5 := KA.cell d1
        have d6 := KA.cell d2
        have OA := hid_of (ownsK OH.out KA)
        have CA := hid_of (CH.out.trans (.of_kept KA))
        have neg : ¬ wr.heap.size = g := by have := (OH.out.lt g rfl).2; omega
        have f5 := OA.out.frozenAt (k * 4)
        have f6 := OA.out.frozenAt (k * 4 + 1)
        clear s1 s2 s3 s4 OH CH KA
        go_wp2_with fail
        generalize hWb : wr.alloc (Obj.cells #[.int .i64 ef, .int .i64 et, .int .i64 ec, .int .i64 ek] 36) = Wb at e0 e1 k5 y5 d5 d6 OA CA f5 f6 ⊢
        clear hWb d1 d2 d3 d4 k4 y4
        refine Ord.region [(0, 0), (1, 0), (2, 0), (3, 0), (4, 1), (5, 0), (6, 0), (7, 0), (8, 0), (9, 0), (10, 1), (11, 0), (12, 1), (13, 0), (14, 1), (16, 1), (17, 0), (18, 1), (15, 2), (19, 2), (20, 0), (21, 0), (22, 2), (23, 0), (24, 0), (25, 2)] (fun w' => Ch (fun x => x = g) Wb w') (by kernel_rfl) (by kernel_rfl) (by kernel_rfl) (by kernel_rfl) (fun _ _ d _ _ h => by cases d <;> exact h) ((Ch.refl _ Wb).drewN _) ?_
        repeat
          refine Ord.step rfl (fun Ko hK => ?_)
          simp only [Ord.body]
          go_simp
          first
            | (refine hK _ _ ?_; clear hK Ko)
            | (refine ⟨_, fun w' hS => (by have c0 := hS.cell k5 npg; simp only [c0, Result.andThen]; rfl), hK _ _ ?_⟩; clear hK Ko)
            | (refine ⟨_, fun w' hS => (by have c0 := hS.cell y5 nwg; simp only [c0, Result.andThen]; rfl), hK _ _ ?_⟩; clear hK Ko)
            | (refine ⟨_, fun w' hS => (by have c0 := hS.cell e0 neg; simp only [c0, Result.andThen]; rfl), hK _ _ ?_⟩; clear hK Ko)
            | (refine ⟨_, fun w' hS => (by have c0 := hS.cell e1 neg; simp only [c0, Result.andThen]; rfl), hK _ _ ?_⟩; clear hK Ko)
            | (go_at_call 36; refine (w1c.out _).mono ?_; rintro r w' ⟨rfl, rfl⟩; refine ⟨(Ch.refl _ Wb).drewN _, hK _ _ ?_⟩; clear hK Ko w1c)
            | (go_at_call 36; refine (w2c.out _).mono ?_; rintro r w' ⟨rfl, rfl⟩; refine ⟨(Ch.refl _ Wb).drewN _, hK _ _ ?_⟩; clear hK Ko w2c)
            | (refine ⟨((Ch.refl (fun x => x = g) Wb).drewN _).setCell (F := fun x => x = g) (p := ⟨g, k * 4, none⟩) rfl _, hK _ _ ?_⟩; clear hK Ko)
            | (refine ⟨(((Ch.refl (fun x => x = g) Wb).drewN _).setCell (F := fun x => x = g) (p := ⟨g, k * 4, none⟩) rfl _).setCell (F := fun x => x = g) (p := ⟨g, k * 4 + 1, none⟩) rfl _, hK _ _ ?_⟩; clear hK Ko)
        refine Ord.done ?_
        have ON := ((((ownsK OA.out ((Kept.refl Wb).drewN 1)).stored (k * 4) (.int .i64 (moveOf v ef))).1.stored (k * 4 + 1) (.int .i64 (moveOf v et))).1)
        have CN := hid_of (((CA.out.drewN 1).setCell (p := ⟨g, k * 4, none⟩) rfl (.int .i64 (moveOf v ef))).setCell (p := ⟨g, k * 4 + 1, none⟩) rfl (.int .i64 (moveOf v et)))
        rw [EVH.out] at ON
        have ONH := hid_of ON
        clear ON OA CA f5 f6 d5 d6 e0 e1 k5 y5 EVH
        go_wp2_with fail
        go_roundw
        case rel => exact ⟨k + 1, by omega, by go_num, ONH.out, CN.out⟩
        case measure => simp [intOf]; omega
      · have kM : k = M := by omega
        subst kM
        have c4 := CH.out.cell c3 n2
        have z5 := (CH.out.frozen (o := 0) (World.block_lt_of_cell? _ _ c3) n2).trans z4
        have z6 := (CH.out.frozen (o := 1) (World.block_lt_of_cell? _ _ k3) n2).trans z3
        have z7 : Hid (∀ q, wr.frozen? ⟨p, q, none⟩ = false) := fun q => (CH.out.frozen (o := q) (World.block_lt_of_cell? _ _ c3) n2).trans (z4q.out q)
        clear O C y4
        go_wp2_with fail
        have CW : Ch F w (wr.setCell ⟨p, 0, none⟩ (.int .i64 (nodes - 1))) := (C3.out.trans (CH.out.mono (G := F) (fun x t => HFs.out x (by rw [← ob]; exact t)))).setCell (p := ⟨p, 0, none⟩) H2.out.own _
        have LM : ((stay v es).map (mvEd v)).length = k := by rw [HT.out, List.length_map, HM.out]
        have EM : mapTo (mvEd v) T k = (stay v es).map (mvEd v) := by rw [HT.out, ← HM.out, mapTo_all]
        have ON := ownsRow_setCell_other OH.out (a := ⟨p, 0, none⟩) n2 (.int .i64 (nodes - 1))
        rw [EM] at ON
        have NN : NetF (wr.setCell ⟨p, 0, none⟩ (.int .i64 (nodes - 1))) F p (nodes - 1) ((stay v es).map (mvEd v)) := by
          refine ⟨World.cell?_setCell_same _ _ _ c4, ⟨ao, cap, ?_, ?_, ?_, ?_⟩, by simpa [go_sem] using z5, by simpa [go_sem] using z6, H2.out.own, fun x t => Nat.lt_of_lt_of_le (HLT.out x t) CW.size, fun q => by simpa [go_sem] using z7.out q⟩
          · rw [LM, World.cell?_setCell_other _ _ _ _ (by simp)]; exact k4
          · rw [LM]; exact ON
          · rw [LM]; exact n2
          · rw [LM, ob]; exact HFs.out
        have NNH := hid_of NN
        have CWH := hid_of CW
        clear NN CW ON EM LM
        go_ret
        exact ⟨rfl, NNH.out, CWH.out⟩
  · have q : (decide (0 ≤ v) && decide (v < nodes)) = false := by
      simp only [Bool.and_eq_false_iff, decide_eq_false_iff_not]; omega
    have IC : Hid (∀ W' : World, Calls Try.prog 33 #[.int .i64 v, .int .i64 nodes] W' fun e w' => e = .returned (.bool false) ∧ W' = w') := fun W' => by have := isNode_calls v nodes W'; rw [q] at this; exact this
    rw [if_pos (by simpa using hv)] at hss
    simp only [Prod.mk.injEq] at hss
    obtain ⟨rfl, rfl, rfl⟩ := hss
    clear q hv
    clear hs h KG H1
    go_enter Try.func18, Try.ntmps18
    go_wp2_with fail
    generalize hW1 : w.alloc (Obj.cells #[.int .i64 v] 3) = W1 at y0 m0 KGH H1H ⊢
    clear hW1
    refine Ord.region [(0, 1), (1, 0), (2, 0), (3, 0), (4, 0), (5, 1), (6, 2), (7, 0)] (fun w' => Kept W1 w') (by kernel_rfl) (by kernel_rfl) (by kernel_rfl) (by kernel_rfl) (fun _ _ d _ _ h => by cases d <;> exact h) ((Kept.refl _).drewN _) ?_
    repeat
      refine Ord.step rfl (fun Ko hK => ?_)
      simp only [Ord.body]
      go_simp
      first
        | (refine hK _ _ ?_; clear hK Ko)
        | (refine ⟨_, fun w' hS => (by have c0 := hS.cell y0; simp only [c0, Result.andThen]; rfl), hK _ _ ?_⟩; clear hK Ko)
        | (refine ⟨_, fun w' hS => (by have c0 := hS.cell m0; simp only [c0, Result.andThen]; rfl), hK _ _ ?_⟩; clear hK Ko)
        | (go_at_call 33; refine (IC.out _).mono ?_; rintro e wf ⟨rfl, rfl⟩; refine ⟨(Kept.refl _).drewN _, hK _ _ ?_⟩; clear hK Ko)
    refine Ord.done ?_
    have KD : Kept W1 (W1.drewN 1) := (Kept.refl W1).drewN 1
    have H2 := hid_of (H1H.out.kept KD)
    have y2 := KD.cell y0
    have K2H := hid_of (KGH.out.trans KD)
    clear y0 m0 H1H KGH IC KD
    go_wp2_with fail
    go_ret
    exact ⟨rfl, H2.out, Ch.of_kept K2H.out⟩
end Go.Proofs.Ythefeijgpgcecaa

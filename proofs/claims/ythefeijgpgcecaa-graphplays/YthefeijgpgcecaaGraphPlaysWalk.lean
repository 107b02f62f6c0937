/- GraphPlays: the walk of the law. -/
import Derived.Test.YthefeijgpgcecaaGrT
namespace Go.Proofs.Ythefeijgpgcecaa
open Go.RowKit

theorem box10a (w : World) (b : Nat) (h : b = w.heap.size) : (w.alloc (Obj.cells #[.int .i64 0, .slice none 0 0] 24)).cell? ⟨b, 0, none⟩ = some (.int .i64 0) := by subst h; simp [go_sem]
theorem box10b (w : World) (b : Nat) (h : b = w.heap.size) : (w.alloc (Obj.cells #[.int .i64 0, .slice none 0 0] 24)).cell? ⟨b, 1, none⟩ = some (.slice none 0 0) := by subst h; simp [go_sem]
theorem box10c (w : World) (b o : Nat) (h : b = w.heap.size) : (w.alloc (Obj.cells #[.int .i64 0, .slice none 0 0] 24)).frozen? ⟨b, o, none⟩ = false := by subst h; simp [go_sem]

/-- Ahead of the first call. -/
theorem plays_start {w w3 : World} {F : Nat → Prop} {p n cap b10 : Nat} {nodes : Int} {es : List Ed} {ao : Option Addr} {o : Obj} (h : ERow w ao n cap es) (hnil : ao = none → n = 0 ∧ cap = 0) (N : NetF w3 F p nodes es) (R : Right nodes es)
    (LH : ∀ k, F k → w.heap.size < k) (K : Kept w w3) (g0 : w3.cell? ⟨w.heap.size, 0, none⟩ = some (.int .i64 nodes)) (g1 : w3.cell? ⟨w.heap.size, 1, none⟩ = some (.slice ao n cap)) (g2 : w3.frozen? ⟨w.heap.size, 0, none⟩ = false) (g3 : w3.frozen? ⟨w.heap.size, 1, none⟩ = false)
    (hb : b10 = w3.heap.size) (x2 : ((w3.drewN 1).alloc o).frozen? ⟨b10, 0, none⟩ = false) (x3 : ((w3.drewN 1).alloc o).frozen? ⟨b10, 1, none⟩ = false)
    (u3 : ((((w3.drewN 1).alloc o).setCell ⟨b10, 0, none⟩ (.int .i64 nodes)).setCell ⟨b10, 1, none⟩ (.slice ao n cap)).cell? ⟨b10, 0, none⟩ = some (.int .i64 nodes))
    (u4 : ((((w3.drewN 1).alloc o).setCell ⟨b10, 0, none⟩ (.int .i64 nodes)).setCell ⟨b10, 1, none⟩ (.slice ao n cap)).cell? ⟨b10, 1, none⟩ = some (.slice ao n cap)) :
    PInv w ((((w3.drewN 1).alloc o).setCell ⟨b10, 0, none⟩ (.int .i64 nodes)).setCell ⟨b10, 1, none⟩ (.slice ao n cap)) F w.heap.size b10 p p nodes es ao n cap := by
  have KX : Kept w3 ((((w3.drewN 1).alloc o).setCell ⟨b10, 0, none⟩ (.int .i64 nodes)).setCell ⟨b10, 1, none⟩ (.slice ao n cap)) :=
    ((((Kept.refl w3).drewN 1).alloc o).setCell (p := ⟨b10, 0, none⟩) (by simp only; omega) _).setCell (p := ⟨b10, 1, none⟩) (by simp only; omega) _
  have lw : w.heap.size < w3.heap.size := lt_cell g0
  have l2 : ∀ k, two w.heap.size b10 k → w.heap.size ≤ k := fun k t => by rcases t with t | t <;> omega
  refine ⟨N.kept KX, R, h.kept (K.trans KX), hnil, fun hn a ha t => ?_, fun hn a ha t => ?_, fun k t s => ?_, KX.cell g0, KX.cell g1, cell_keptF KX g0 g2, cell_keptF KX g0 g3, Nat.le_refl _, by omega, by omega, K.trans KX, fun k t => by have := LH k t; omega, nodes, ao, n, cap, u3, u4, ?_, ?_, .inl rfl⟩
  · have := h.lt hn a ha; have := LH _ t; omega
  · have := h.lt hn a ha; have := l2 _ t; omega
  · have := LH k t
    have := N.lt k t
    rcases s with s | s <;> omega
  · simpa [go_sem] using x2
  · simpa [go_sem] using x3

set_option maxRecDepth 100000 in
set_option linter.unusedSimpArgs false in
set_option maxHeartbeats 4000000 in
theorem graphPlaysWalk (nodes : Int) (ao : Option Addr) (n cap : Nat) (es : List Ed) (bo : Option Addr) (len cbp : Nat) (os : List GOp) (w : World) (h : ERow w ao n cap es) (hb : n * 32 ≤ 140737488355328) (hnil : ao = none → n = 0 ∧ cap = 0) (ho : ORow w bo len cbp os) :
    Calls Try.prog 3 #[.agg #[.int .i64 nodes, .slice ao n cap], .slice bo len cbp] w fun v w' => v = .returned (.bool true) ∧ Kept w w' := by
  obtain ⟨c, a, hf⟩ : ∃ c a, Hid (faultOf nodes es = (c, a)) := ⟨_, _, hid_of rfl⟩
  have hnot : ∀ (x : Bool) (w : World), (Op.unary .not (.bool x)).run Try.prog w = .ok (.bool (!x)) w := fun _ _ => rfl
  have hr := ho.room
  have hm := ho.most
  unfold maxLen at hm
  have KG : Kept w (w.alloc (Obj.cells #[.int .i64 nodes, .slice ao n cap] 24)) := (Kept.refl w).alloc _
  have g0 : (w.alloc (Obj.cells #[.int .i64 nodes, .slice ao n cap] 24)).cell? ⟨w.heap.size, 0, none⟩ = some (.int .i64 nodes) := by simp [go_sem]
  have g1 : (w.alloc (Obj.cells #[.int .i64 nodes, .slice ao n cap] 24)).cell? ⟨w.heap.size, 1, none⟩ = some (.slice ao n cap) := by simp [go_sem]
  have g2 : (w.alloc (Obj.cells #[.int .i64 nodes, .slice ao n cap] 24)).frozen? ⟨w.heap.size, 0, none⟩ = false := by simp [go_sem]
  have g3 : (w.alloc (Obj.cells #[.int .i64 nodes, .slice ao n cap] 24)).frozen? ⟨w.heap.size, 1, none⟩ = false := by simp [go_sem]
  have H0 := hid_of h
  have HO := hid_of ho
  clear h ho
  go_enter Try.func3, Try.ntmps3
  go_wp2_with fail
  generalize hW0 : w.alloc (Obj.cells #[.int .i64 nodes, .slice ao n cap] 24) = W0 at *
  clear hW0
  refine (awake_calls _).mono ?_
  rintro v wa ⟨rfl, K1⟩
  replace g2 := cell_keptF K1 g0 g2
  replace g3 := cell_keptF K1 g0 g3
  replace g0 := K1.cell g0
  replace g1 := K1.cell g1
  have KA := hid_of (KG.trans K1)
  clear K1 KG
  go_wp2_with fail
  refine (from_calls nodes ao n cap es wa (H0.out.kept KA.out) hb hnil c a hf).mono ?_
  rintro v wb ⟨ptr, rfl, K2, hp1, hp2⟩
  have K3 := K2.alloc (Obj.cells #[.int .i64 c, .int .i64 a] 30)
  have lga : w.heap.size < wa.heap.size := lt_cell g0
  replace g2 := cell_keptF K3 g0 g2
  replace g3 := cell_keptF K3 g0 g3
  replace g0 := K3.cell g0
  replace g1 := K3.cell g1
  have KB := hid_of (KA.out.trans K3)
  go_upto_region 4 with fail
  have CR := hid_of (checkR_calls nodes ao n cap es _ (H0.out.kept KB.out) c a hf)
  by_cases hc : c = 0
  · subst hc
    obtain ⟨p, rfl, N0⟩ := hp2 rfl
    obtain ⟨F0, NF, LF⟩ := N0.toF
    have RI := hid_of (right_of hf.out)
    have K4 : Kept wb (wb.alloc (Obj.cells #[.int .i64 0, .int .i64 a] 30)) := (Kept.refl wb).alloc _
    have NH := hid_of (NF.kept K4)
    have LH : Hid (∀ k, F0 k → w.heap.size < k) := fun k hk => by have := LF k hk; omega
    clear hp1 hp2 N0 NF LF K2 K3 K4 hf KA
    generalize hW2 : wb.alloc (Obj.cells #[.int .i64 0, .int .i64 a] 30) = W2 at *
    clear hW2
    go_wp2_with fail
    refine CR.out.mono ?_
    rintro v w3 ⟨rfl, K5⟩
    replace g2 := cell_keptF K5 g0 g2
    replace g3 := cell_keptF K5 g0 g3
    replace g0 := K5.cell g0
    replace g1 := K5.cell g1
    have N3 := hid_of (NH.out.kept K5)
    have KC := hid_of (KB.out.trans K5)
    clear CR K5 NH KB
    go_upto_region 7 with fail
    have x0 : ((w3.drewN 1).alloc (Obj.cells #[.int .i64 0, .slice none 0 0] 24)).cell? ⟨w3.heap.size, 0, none⟩ = some (.int .i64 0) := box10a (w3.drewN 1) _ rfl
    have x1 : ((w3.drewN 1).alloc (Obj.cells #[.int .i64 0, .slice none 0 0] 24)).cell? ⟨w3.heap.size, 1, none⟩ = some (.slice none 0 0) := box10b (w3.drewN 1) _ rfl
    have x2 : ((w3.drewN 1).alloc (Obj.cells #[.int .i64 0, .slice none 0 0] 24)).frozen? ⟨w3.heap.size, 0, none⟩ = false := box10c (w3.drewN 1) _ 0 rfl
    have x3 : ((w3.drewN 1).alloc (Obj.cells #[.int .i64 0, .slice none 0 0] 24)).frozen? ⟨w3.heap.size, 1, none⟩ = false := box10c (w3.drewN 1) _ 1 rfl
    obtain ⟨u1, u2, u3, u4⟩ := box2w x0 x1 (.int .i64 nodes) (.slice ao n cap)
    have lw3 : w.heap.size < w3.heap.size := lt_cell g0
    have P0 := hid_of (plays_start (b10 := w3.heap.size) H0.out hnil N3.out RI.out LH.out KC.out g0 g1 g2 g3 rfl x2 x3 u3 u4)
    refine Ord.region [(0, 0), (1, 1), (2, 2), (3, 0), (4, 2)] (fun w' => Kept w3 w') (by kernel_rfl) (by kernel_rfl) (by kernel_rfl) (by kernel_rfl) (fun _ _ d _ _ h => by cases d <;> exact h) ((Kept.refl _).drewN _) ?_
    repeat
      refine Ord.step rfl (fun Ko hK => ?_)
      simp only [Ord.body]
      go_simp
      first
        | (refine hK _ _ ?_; clear hK Ko)
        | (refine ⟨_, fun w' hS => (by have c0 := hS.cell g0; have c1 := hS.cell g1; simp only [c0, c1, Result.andThen]; rfl), hK _ _ ?_⟩; clear hK Ko)
        | (refine ⟨((Kept.refl _).drewN _).alloc _, hK _ _ ?_⟩; clear hK Ko)
        | (refine ⟨((((Kept.refl w3).drewN 1).alloc _).setCell (p := ⟨w3.heap.size, 0, none⟩) (Nat.le_refl _) _).setCell (p := ⟨w3.heap.size, 1, none⟩) (Nat.le_refl _) _, hK _ _ ?_⟩; clear hK Ko)
    refine Ord.done ?_
    clear x0 x1 x2 x3 u1 u2 u3 u4 g0 g1 g2 g3 N3 RI LH KC H0
    generalize hW5 : ((((w3.drewN 1).alloc (Obj.cells #[.int .i64 0, .slice none 0 0] 24)).setCell ⟨w3.heap.size, 0, none⟩ (.int .i64 nodes)).setCell ⟨w3.heap.size, 1, none⟩ (.slice ao n cap)) = W5 at *
    clear hW5
    generalize hb10 : w3.heap.size = b10 at *
    clear hb10 hb hnil
    go_wp2_with fail
    generalize hb2 : w.heap.size = b2 at *
    clear hb2
    go_loopw [5, 9, 12, 13, 14, 35] (fun xp xo _ _ _ i wr => ∃ k : Nat, k ≤ len ∧ i = .int .i64 (k : Int) ∧ ∃ p po, xp = .pointer (some ⟨p, 0, none⟩) ∧ xo = .pointer (some ⟨po, 0, none⟩) ∧ ∃ F nd xs ao n cap, PInv w wr F b2 b10 p po nd xs ao n cap) (fun _ _ _ _ _ i _ => len - (intOf i).toNat)
    case atStart => exact ⟨0, by omega, rfl, p, p, rfl, rfl, F0, nodes, es, ao, n, cap, P0.out⟩
    case round =>
      obtain ⟨k, hk, rfl, p, po, rfl, rfl, F, nd, xs, ao, n, cap, PR⟩ := hrel
      have PH := hid_of PR
      clear PR P0
      have g0 := PH.out.g0
      have g1 := PH.out.g1
      have y0 := PH.out.y0
      have y1 := PH.out.y1
      by_cases hgo : (k : Int) < (len : Int)
      · obtain ⟨b, off, rfl, hcl⟩ := HO.out.cell (by omega)
        obtain ⟨d0, d1, d2, d3, d4, d5⟩ := hcl k (by omega)
        have KR := PH.out.kept
        replace d0 := KR.cell d0
        replace d1 := KR.cell d1
        replace d2 := KR.cell d2
        replace d3 := KR.cell d3
        replace d4 := KR.cell d4
        replace d5 := KR.cell d5
        clear hcl KR
        generalize gopAt os k = o at d0 d1 d2 d3 d4 d5
        obtain ⟨x0, x1, y0', y1', y2', y3'⟩ := o
        simp only at d0 d1 d2 d3 d4 d5
        have K4 : Kept wr (wr.alloc (Obj.cells #[.int .i64 x0, .int .i64 x1, .int .i64 y0', .int .i64 y1', .int .i64 y2', .int .i64 y3'] 38)) := (Kept.refl wr).alloc _
        have e0 : (wr.alloc (Obj.cells #[.int .i64 x0, .int .i64 x1, .int .i64 y0', .int .i64 y1', .int .i64 y2', .int .i64 y3'] 38)).cell? ⟨wr.heap.size, 0, none⟩ = some (.int .i64 x0) := by simp [go_sem]
        have e1 : (wr.alloc (Obj.cells #[.int .i64 x0, .int .i64 x1, .int .i64 y0', .int .i64 y1', .int .i64 y2', .int .i64 y3'] 38)).cell? ⟨wr.heap.size, 1, none⟩ = some (.int .i64 x1) := by simp [go_sem]
        have e2 : (wr.alloc (Obj.cells #[.int .i64 x0, .int .i64 x1, .int .i64 y0', .int .i64 y1', .int .i64 y2', .int .i64 y3'] 38)).cell? ⟨wr.heap.size, 2, none⟩ = some (.int .i64 y0') := by simp [go_sem]
        have e3 : (wr.alloc (Obj.cells #[.int .i64 x0, .int .i64 x1, .int .i64 y0', .int .i64 y1', .int .i64 y2', .int .i64 y3'] 38)).cell? ⟨wr.heap.size, 3, none⟩ = some (.int .i64 y1') := by simp [go_sem]
        have e4 : (wr.alloc (Obj.cells #[.int .i64 x0, .int .i64 x1, .int .i64 y0', .int .i64 y1', .int .i64 y2', .int .i64 y3'] 38)).cell? ⟨wr.heap.size, 4, none⟩ = some (.int .i64 y2') := by simp [go_sem]
        have e5 : (wr.alloc (Obj.cells #[.int .i64 x0, .int .i64 x1, .int .i64 y0', .int .i64 y1', .int .i64 y2', .int .i64 y3'] 38)).cell? ⟨wr.heap.size, 5, none⟩ = some (.int .i64 y3') := by simp [go_sem]
        have P4 := hid_of (PH.out.keptBy K4)
        clear g0 g1 y0 y1 PH
        go_upto_region 11 with fail
        generalize hW4 : wr.alloc (Obj.cells #[.int .i64 x0, .int .i64 x1, .int .i64 y0', .int .i64 y1', .int .i64 y2', .int .i64 y3'] 38) = W4 at K4 e0 e1 e2 e3 e4 e5 P4 ⊢
        clear hW4 d0 d1 d2 d3 d4 d5 K4
        have g0 := P4.out.g0
        have g1 := P4.out.g1
        have y0 := P4.out.y0
        have y1 := P4.out.y1
        by_cases h7 : x0 = 7
        · subst h7
          obtain ⟨nd0, ao0, n0, cap0, OA⟩ := P4.out.old
          have b0 := OA.c0
          have b1 := OA.c1
          have b2z := OA.z0
          have b3z := OA.z1
          clear OA
          go_upto_region 12 with fail
          have ne2 : ¬ b2 = b10 := P4.out.ne
          have P5 := hid_of (P4.out.keptBy ((Kept.refl W4).drewN 1))
          have C6 : Ch (fun x => x = b10) (W4.drewN 1) (((W4.drewN 1).setCell ⟨b10, 0, none⟩ (.int .i64 nd)).setCell ⟨b10, 1, none⟩ (.slice ao n cap)) :=
            ((Ch.refl (fun x => x = b10) (W4.drewN 1)).setCell (F := fun x => x = b10) (p := ⟨b10, 0, none⟩) rfl _).setCell (F := fun x => x = b10) (p := ⟨b10, 1, none⟩) rfl _
          have FC := hid_of (fork_calls _ F p nd xs (P5.out.net.far C6 (fun k hk e => P5.out.nF k hk (.inr e))) P5.out.right.len)
          clear P4 C6 e0 e1 e2 e3 e4 e5
          refine Ord.region [(0, 0), (1, 1), (2, 0), (3, 2)] (fun w' => Ch (fun x => x = b10) W4 w') (by kernel_rfl) (by kernel_rfl) (by kernel_rfl) (by kernel_rfl) (fun _ _ d _ _ h => by cases d <;> exact h) ((Ch.refl _ _).drewN _) ?_
          repeat
            refine Ord.step rfl (fun Ko hK => ?_)
            simp only [Ord.body]
            go_simp
            first
              | (refine hK _ _ ?_; clear hK Ko)
              | (refine ⟨_, fun w' hS => (by have c0 := hS.cell g0 ne2; have c1 := hS.cell g1 ne2; simp only [c0, c1, Result.andThen]; rfl), hK _ _ ?_⟩; clear hK Ko)
              | (refine ⟨(((Ch.refl (fun x => x = b10) W4).drewN 1).setCell (F := fun x => x = b10) (p := ⟨b10, 0, none⟩) rfl _).setCell (F := fun x => x = b10) (p := ⟨b10, 1, none⟩) rfl _, hK _ _ ?_⟩; clear hK Ko)
          refine Ord.done ?_
          clear b0 b1 b2z b3z g0 g1 y0 y1
          go_wp2_with fail
          refine FC.out.mono ?_
          rintro r w7 ⟨q, rfl, NQ, KQ⟩
          obtain ⟨F', P7'⟩ := P5.out.fork NQ KQ
          have P7 := hid_of P7'
          clear P7' NQ KQ FC P5
          go_wp2_with fail
          go_roundw
          case rel => exact ⟨k + 1, by omega, by go_num, q, p, rfl, rfl, F', nd, xs, ao, n, cap, P7.out⟩
          case measure => simp [intOf]; omega
        · have k7 : (x0 == 7) = false := by simpa using h7
          obtain ⟨n', zs, c', hE⟩ : ∃ n' zs c', Hid (editOf nd xs ⟨x0, x1, ⟨y0', y1', y2', y3'⟩⟩ = (n', zs, c')) := ⟨_, _, _, hid_of rfl⟩
          obtain ⟨m', hM⟩ : ∃ m', Hid (zs.length = m') := ⟨_, hid_of rfl⟩
          have EC := hid_of (edit_calls W4 F p nd xs P4.out.net P4.out.right ao n cap P4.out.row P4.out.nil P4.out.asF ⟨x0, x1, ⟨y0', y1', y2', y3'⟩⟩ n' zs c' hE m' hM)
          have RE := hid_of (P4.out.right.edit _ hE.out).1
          clear hE
          go_wp2_with fail
          refine EC.out.mono ?_
          rintro r w5 ⟨ao', cap', rfl, EP⟩
          have EPH := hid_of EP
          obtain ⟨F', N5, A5, L5⟩ := EP.ex
          have K6 : Kept w5 (w5.alloc (Obj.cells #[.int .i64 n', .slice ao' m' cap'] 24)) := (Kept.refl w5).alloc _
          have s0 : (w5.alloc (Obj.cells #[.int .i64 n', .slice ao' m' cap'] 24)).cell? ⟨w5.heap.size, 0, none⟩ = some (.int .i64 n') := by simp [go_sem]
          have s1 : (w5.alloc (Obj.cells #[.int .i64 n', .slice ao' m' cap'] 24)).cell? ⟨w5.heap.size, 1, none⟩ = some (.slice ao' m' cap') := by simp [go_sem]
          have nF2 : ¬ F b2 := fun t => P4.out.nF _ t (.inl rfl)
          have lb2 : b2 < W4.heap.size := lt_cell g0
          have C56 : Ch F W4 (w5.alloc (Obj.cells #[.int .i64 n', .slice ao' m' cap'] 24)) := EP.ch.trans (.of_kept K6)
          have t0 := C56.cell g0 nF2
          have t1 := C56.cell g1 nF2
          have t2 := (C56.frozen (o := 0) lb2 nF2).trans y0
          have t3 := (C56.frozen (o := 1) lb2 nF2).trans y1
          have nb2 : ¬ w5.heap.size = b2 := by have := EP.ch.size; omega
          have N6 := hid_of (N5.kept K6)
          have K6H := hid_of K6
          clear EP N5 A5 L5 EC K6 C56 g0 g1 y0 y1 e0 e1 e2 e3 e4 e5
          go_upto_region 17 with fail
          generalize hW6 : w5.alloc (Obj.cells #[.int .i64 n', .slice ao' m' cap'] 24) = W6 at *
          clear hW6
          have NC := hid_of (fun m => nodes_calls (W6.drewN m) 0 p n' zs (N6.out.kept ((Kept.refl _).drewN m)).at)
          have LC := hid_of (fun m => edges_calls (W6.drewN m) 0 p n' zs (N6.out.kept ((Kept.refl _).drewN m)).at)
          rw [hM.out] at LC
          have qn : (n' != n') = false := by simp
          have qm : ((m' : Int) != (m' : Int)) = false := by simp
          refine Ord.region [(0, 0), (1, 0), (2, 0), (3, 0), (4, 0), (5, 0), (7, 0), (8, 1), (6, 2), (9, 0), (10, 0), (11, 0), (12, 0), (13, 0), (14, 0), (16, 0), (17, 1), (18, 0), (15, 2), (19, 0), (20, 0)] (fun w' => Kept W6 w') (by kernel_rfl) (by kernel_rfl) (by kernel_rfl) (by kernel_rfl) (fun _ _ d _ _ h => by cases d <;> exact h) ((Kept.refl _).drewN _) ?_
          repeat
            refine Ord.step rfl (fun Ko hK => ?_)
            simp only [Ord.body]
            go_simp
            first
              | (refine hK _ _ ?_; clear hK Ko)
              | (refine ⟨_, fun w' hS => (by have c0 := hS.cell s0; simp only [c0, Result.andThen]; rfl), hK _ _ ?_⟩; clear hK Ko)
              | (refine ⟨_, fun w' hS => (by have c0 := hS.cell s1; simp only [c0, Result.andThen]; rfl), hK _ _ ?_⟩; clear hK Ko)
              | (go_at_call 10; refine (NC.out _).mono ?_; rintro e w' ⟨rfl, rfl⟩; refine ⟨(Kept.refl _).drewN _, hK _ _ ?_⟩; clear hK Ko)
              | (go_at_call 11; refine (LC.out _).mono ?_; rintro e w' ⟨rfl, rfl⟩; refine ⟨(Kept.refl _).drewN _, hK _ _ ?_⟩; clear hK Ko)
          refine Ord.done ?_
          have KD : Kept W6 (W6.drewN 1) := (Kept.refl W6).drewN 1
          replace s0 := KD.cell s0
          replace s1 := KD.cell s1
          replace t2 := cell_keptF KD t0 t2
          replace t3 := cell_keptF KD t0 t3
          replace t0 := KD.cell t0
          replace t1 := KD.cell t1
          obtain ⟨F9, P9'⟩ := P4.out.edit EPH.out RE.out (K6H.out.trans KD)
          have P9 := hid_of P9'
          clear P9' EPH P4 NC LC N6 K6H KD RE hM
          go_wp2_with fail
          go_roundw
          case rel => exact ⟨k + 1, by omega, by go_num, p, po, rfl, rfl, F9, n', zs, ao', m', cap', P9.out⟩
          case measure => simp [intOf]; omega
      · obtain ⟨nd0, ao0, n0, cap0, OA⟩ := PH.out.old
        have b0 := OA.c0
        have b1 := OA.c1
        have PC := hid_of (fun m => plain_calls (wr.drewN m) 0 p nd xs (PH.out.net.kept ((Kept.refl _).drewN m)).at (by have := PH.out.right.len; omega))
        have HLn := PH.out.row.len
        rw [← HLn] at PC
        have SC : Hid (∀ W' ao1 cap1, Kept wr W' → W'.ownsRow 0 36 4 (.slice ao1 n cap1) n (evals xs) → Calls Try.prog 12 #[.agg #[.int .i64 nd, .slice ao1 n cap1], .agg #[.int .i64 nd, .slice ao n cap]] W' fun v w' => v = .returned (.bool true) ∧ Kept W' w') := fun W' ao1 cap1 K O =>
          same_calls nd ao1 ao n cap1 cap xs W' (ERow.of_owns O) (PH.out.row.kept K)
        have KW := hid_of PH.out.kept
        clear HLn
        rcases OA.net with rfl | ⟨hpo, F0, xs0, N0, l0, -, -, r0, -, -⟩
        · have PE := ptr_same po
          clear PH OA HO y0 y1
          go_wp2_with fail
          refine Ord.region [(0, 0), (1, 0), (2, 0), (4, 1), (3, 2), (5, 2), (6, 0), (7, 0), (8, 0), (9, 0), (10, 0), (11, 0), (12, 0), (13, 0), (15, 1), (14, 2), (16, 2), (17, 0), (18, 0), (19, 0)] (fun w' => Kept wr w') (by kernel_rfl) (by kernel_rfl) (by kernel_rfl) (by kernel_rfl) (fun _ _ d _ _ h => by cases d <;> exact h) ((Kept.refl _).drewN _) ?_
          repeat
            refine Ord.step rfl (fun Ko hK => ?_)
            simp only [Ord.body]
            go_simp
            first
              | (refine hK _ _ ?_; clear hK Ko)
              | (refine ⟨_, fun w' hS => (by have c0 := hS.cell g0; have c1 := hS.cell g1; simp only [c0, c1, Result.andThen]; rfl), hK _ _ ?_⟩; clear hK Ko)
              | (go_at_call 13; refine (PC.out _).mono ?_; rintro e w2 ⟨a2, c2, rfl, O2, K2⟩; have K2b := ((Kept.refl wr).drewN _).trans K2; refine ⟨K2b, hK _ _ ?_⟩; clear hK Ko; have SD := hid_of (SC.out w2 a2 c2 K2b (O2.mono (Nat.zero_le _))))
              | (go_at_call 12; refine SD.out.mono ?_; rintro e w4 ⟨rfl, K4⟩; have K4b := K2b.trans K4; refine ⟨K4b, hK _ _ ?_⟩; clear hK Ko)
          refine Ord.done ?_
          have KZ := hid_of (KW.out.trans K4b)
          clear PC SC SD K4 K4b K2 K2b O2
          go_wp2_with fail
          go_ret
          exact ⟨rfl, KZ.out⟩
        · have PE : Hid (∀ w', Kept wr w' → (binOp .eql 27 (.pointer (some ⟨po, 0, none⟩)) (.pointer (some ⟨p, 0, none⟩))).run Try.prog w' = .ok (.bool false) w') := fun w' K => ptr_kept K hpo N0.c0 PH.out.net.c0 N0.zz PH.out.net.zz
          have hln0 := r0.len
          have PC0 : Hid (∀ W', Kept wr W' → Calls Try.prog 13 #[.pointer (some ⟨po, 0, none⟩)] W' fun v w' => ∃ ao' cap', v = .returned (.agg #[.int .i64 nd0, .slice ao' n0 cap']) ∧ w'.ownsRow W'.heap.size 36 4 (.slice ao' n0 cap') n0 (evals xs0) ∧ Kept W' w') := fun W' K => by
            have := plain_calls W' 0 po nd0 xs0 (N0.kept K).at (by omega)
            rw [← hln0] at this
            exact this
          have SC0 : Hid (∀ W' ao1 cap1, Kept wr W' → W'.ownsRow 0 36 4 (.slice ao1 n0 cap1) n0 (evals xs0) → Calls Try.prog 12 #[.agg #[.int .i64 nd0, .slice ao1 n0 cap1], .agg #[.int .i64 nd0, .slice ao0 n0 cap0]] W' fun v w' => v = .returned (.bool true) ∧ Kept W' w') := fun W' ao1 cap1 K O =>
            same_calls nd0 ao1 ao0 n0 cap1 cap0 xs0 W' (ERow.of_owns O) (r0.kept K)
          clear PH OA HO y0 y1 N0 r0 hln0 l0
          go_wp2_with fail
          refine Ord.region [(0, 0), (1, 0), (2, 0), (4, 1), (3, 2), (5, 2), (6, 0), (7, 0), (8, 0), (9, 1), (10, 0), (11, 0), (12, 0), (13, 0), (15, 1), (14, 2), (16, 2), (17, 0), (18, 0), (19, 0)] (fun w' => Kept wr w') (by kernel_rfl) (by kernel_rfl) (by kernel_rfl) (by kernel_rfl) (fun _ _ d _ _ h => by cases d <;> exact h) ((Kept.refl _).drewN _) ?_
          repeat
            refine Ord.step rfl (fun Ko hK => ?_)
            simp only [Ord.body]
            go_simp
            first
              | (refine hK _ _ ?_; clear hK Ko)
              | (refine ⟨_, fun w' hS => (by have c0 := hS.cell g0; have c1 := hS.cell g1; simp only [c0, c1, Result.andThen]; rfl), hK _ _ ?_⟩; clear hK Ko)
              | (refine ⟨_, fun w' hS => (by have c0 := PE.out w' hS; simp only [c0, Result.andThen]; rfl), hK _ _ ?_⟩; clear hK Ko)
              | (refine ⟨_, fun w' hS => PE.out w' hS, hK _ _ ?_⟩; clear hK Ko)
              | (refine ⟨_, fun w' hS => (by have c0 := hS.cell b0; have c1 := hS.cell b1; simp only [c0, c1, Result.andThen]; rfl), hK _ _ ?_⟩; clear hK Ko)
              | (go_at_call 13; refine (PC.out _).mono ?_; rintro e w2 ⟨a2, c2, rfl, O2, K2⟩; have K2b := ((Kept.refl wr).drewN _).trans K2; refine ⟨K2b, hK _ _ ?_⟩; clear hK Ko PC; have SD := hid_of (SC.out w2 a2 c2 K2b (O2.mono (Nat.zero_le _))))
              | (go_at_call 12; refine SD.out.mono ?_; rintro e w4 ⟨rfl, K4⟩; have K4b := K2b.trans K4; refine ⟨K4b, hK _ _ ?_⟩; clear hK Ko SD; have PD := hid_of (PC0.out w4 K4b))
              | (go_at_call 13; refine PD.out.mono ?_; rintro e w6 ⟨a6, c6, rfl, O6, K6⟩; have K6b := K4b.trans K6; refine ⟨K6b, hK _ _ ?_⟩; clear hK Ko; have SE := hid_of (SC0.out w6 a6 c6 K6b (O6.mono (Nat.zero_le _))))
              | (go_at_call 12; refine SE.out.mono ?_; rintro e w8 ⟨rfl, K8⟩; have K8b := K6b.trans K8; refine ⟨K8b, hK _ _ ?_⟩; clear hK Ko)
          refine Ord.done ?_
          have KZ := hid_of (KW.out.trans K8b)
          clear SC PC0 SC0 SE PD
          go_wp2_with fail
          go_ret
          exact ⟨rfl, KZ.out⟩
  · have q : (c != 0) = true := by simpa using hc
    obtain rfl := hp1 hc
    clear hp2 hp1
    go_wp2_with fail
    refine CR.out.mono ?_
    rintro v w3 ⟨rfl, K5⟩
    have KC := hid_of (KB.out.trans K5)
    clear CR K5
    go_wp2_with fail
    go_ret
    exact ⟨rfl, KC.out⟩
end Go.Proofs.Ythefeijgpgcecaa

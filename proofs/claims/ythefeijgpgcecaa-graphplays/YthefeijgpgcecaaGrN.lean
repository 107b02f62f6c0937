/- The document's CutNode. -/
import Derived.Test.YthefeijgpgcecaaGrM
import Derived.Test.YthefeijgpgcecaaGrR
namespace Go.Proofs.Ythefeijgpgcecaa
open Go.RowKit

theorem stay_at (v : Int) (es : List Ed) (k : Nat) (hk : k < es.length) (h : atNode v (edAt es k) = true) : (stay v (es.take (k + 1))).map (mvEd v) = (stay v (es.take k)).map (mvEd v) := by
  rw [take_snoc es k hk]
  simp [stay, h]

theorem stay_next (v : Int) (es : List Ed) (k : Nat) (hk : k < es.length) (h : atNode v (edAt es k) = false) : (stay v (es.take (k + 1))).map (mvEd v) = (stay v (es.take k)).map (mvEd v) ++ [mvEd v (edAt es k)] := by
  rw [take_snoc es k hk]
  simp [stay, h]

set_option maxRecDepth 100000 in
set_option maxHeartbeats 2000000 in
theorem cutNodeR_calls (nodes : Int) (ao : Option Addr) (n cap : Nat) (es : List Ed) (v : Int) (w : World) (h : ERow w ao n cap es) (hb : n ≤ 4096) (h0 : 0 ≤ nodes) (h1 : nodes ≤ 1024) (hrg : Hid (∀ e ∈ es, 0 ≤ e.f ∧ e.f ≤ 1024 ∧ 0 ≤ e.t ∧ e.t ≤ 1024)) (hnil : ao = none → n = 0 ∧ cap = 0) (nodes' : Int) (es' : List Ed) (c : Int) (hs : Hid (cutNodeOf nodes es v = (nodes', es', c))) (n' : Nat) (hn' : Hid (es'.length = n')) :
    Calls Try.prog 27 #[.agg #[.int .i64 nodes, .slice ao n cap], .int .i64 v] w fun r w' => ∃ ao' cap', r = .returned (.tuple #[.agg #[.int .i64 nodes', .slice ao' n' cap'], .int .i64 c]) ∧ ERow w' ao' n' cap' es' ∧ (ao' = none → n' = 0 ∧ cap' = 0) ∧ Fresh w.heap.size ao n ao' n' ∧ Kept w w' := by
  have hl1 : n ≤ es.length := Nat.le_of_eq h.len
  have hl2 : es.length ≤ n := Nat.le_of_eq h.len.symm
  have hr := h.room
  have hm := h.most
  unfold maxLen at hm
  have hss := hs.out
  unfold cutNodeOf at hss
  clear hs
  by_cases hc : 0 ≤ v ∧ v < nodes
  · rw [if_neg (by omega)] at hss
    simp only [Prod.mk.injEq] at hss
    obtain ⟨rfl, rfl, rfl⟩ := hss
    have hi2 : v < nodes := hc.2
    have hi1 : 0 ≤ v := hc.1
    obtain ⟨i0, hi, hz0, hz1, hz2⟩ := infoE
    have KG : Kept w ((w.alloc (Obj.cells #[.int .i64 nodes, .slice ao n cap] 24)).alloc (Obj.cells #[.int .i64 0, .slice none 0 0] 24)) := ((Kept.refl w).alloc _).alloc _
    have g1 : ((w.alloc (Obj.cells #[.int .i64 nodes, .slice ao n cap] 24)).alloc (Obj.cells #[.int .i64 0, .slice none 0 0] 24)).cell? ⟨w.heap.size, 1, none⟩ = some (.slice ao n cap) := by simp [go_sem]
    have f0 : ((w.alloc (Obj.cells #[.int .i64 nodes, .slice ao n cap] 24)).alloc (Obj.cells #[.int .i64 0, .slice none 0 0] 24)).cell? ⟨w.heap.size + 1, 0, none⟩ = some (.int .i64 0) := by simp [go_sem]
    have f1 : ((w.alloc (Obj.cells #[.int .i64 nodes, .slice ao n cap] 24)).alloc (Obj.cells #[.int .i64 0, .slice none 0 0] 24)).cell? ⟨w.heap.size + 1, 1, none⟩ = some (.slice none 0 0) := by simp [go_sem]
    have f2 : ((w.alloc (Obj.cells #[.int .i64 nodes, .slice ao n cap] 24)).alloc (Obj.cells #[.int .i64 0, .slice none 0 0] 24)).frozen? ⟨w.heap.size + 1, 0, none⟩ = false := by simp [go_sem]
    have f3 : ((w.alloc (Obj.cells #[.int .i64 nodes, .slice ao n cap] 24)).alloc (Obj.cells #[.int .i64 0, .slice none 0 0] 24)).frozen? ⟨w.heap.size + 1, 1, none⟩ = false := by simp [go_sem]
    have hz : ((w.alloc (Obj.cells #[.int .i64 nodes, .slice ao n cap] 24)).alloc (Obj.cells #[.int .i64 0, .slice none 0 0] 24)).heap.size = w.heap.size + 2 := by simp
    clear hc
    have hin : ¬ v < 0 := by omega
    have hin2 : ¬ nodes ≤ v := by omega
    have g0 : ((w.alloc (Obj.cells #[.int .i64 nodes, .slice ao n cap] 24)).alloc (Obj.cells #[.int .i64 0, .slice none 0 0] 24)).cell? ⟨w.heap.size, 0, none⟩ = some (.int .i64 nodes) := by simp [go_sem]
    go_enter Try.func27, Try.ntmps27
    go_wp2_with fail
    generalize (w.alloc (Obj.cells #[.int .i64 nodes, .slice ao n cap] 24)).alloc (Obj.cells #[.int .i64 0, .slice none 0 0] 24) = W1 at KG g0 g1 f0 f1 f2 f3 hz ⊢
    have HR := hid_of (h.kept KG)
    have N0 : NetAt (W1.alloc (Obj.cells #[.int .i64 (nodes - 1), .slice none 0 0] 24)) W1.heap.size (w.heap.size + 2) (nodes - 1) [] := by
      rw [← hz]
      exact ⟨by simp [go_sem], ⟨none, 0, by simp [go_sem], World.ownsRow_nil _ _ _ _, by simp [Value.ownBlock]⟩, by simp [go_sem], by simp [go_sem], Nat.le_refl _, fun q => by simp [go_sem]⟩
    have HZ := hid_of hz
    clear h hz
    go_loopw [7, 8] (fun j _ wr => ∃ (k : Nat), k ≤ n ∧ j = .int .i64 k ∧ NetAt wr W1.heap.size (w.heap.size + 2) (nodes - 1) ((stay v (es.take k)).map (mvEd v)) ∧ Kept W1 wr) (fun i _ _ => n - (intOf i).toNat)
    case atStart => exact ⟨0, by omega, rfl, N0, (Kept.refl _).alloc _⟩
    case round =>
      obtain ⟨k, hk, rfl, R, K⟩ := hrel
      clear N0
      have p1 := K.cell g1
      by_cases hgo : (k : Int) < (n : Int)
      · obtain ⟨b, off, rfl, hc⟩ := HR.out.cell (by omega)
        obtain ⟨c1, c2, c3, c4⟩ := hc k (by omega)
        have d1 := K.cell c1
        have d2 := K.cell c2
        have d3 := K.cell c3
        have d4 := K.cell c4
        clear hc c1 c2 c3 c4
        have RG := hrg.out (edAt es k) (edAt_mem (by omega))
        by_cases hat : atNode v (edAt es k) = true
        · have TT := stay_at v es k (by omega) hat
          rw [← TT] at R
          generalize edAt es k = ed at d1 d2 d3 d4 hat RG
          obtain ⟨ef, et, ec, ek⟩ := ed
          simp only at d1 d2 d3 d4
          simp only [atNode, Bool.or_eq_true, beq_iff_eq] at hat
          have KA := K.alloc (Obj.cells #[.int .i64 ef, .int .i64 et, .int .i64 ec, .int .i64 ek] 36)
          have RH := hid_of (R.alloc (Obj.cells #[.int .i64 ef, .int .i64 et, .int .i64 ec, .int .i64 ek] 36))
          have KH := hid_of KA
          clear R TT RG
          by_cases hf : ef = v
          · subst hf
            have qf : (ef != ef) = false := by simp
            clear hat
            go_wp2_with fail
            go_roundw
            case rel => exact ⟨k + 1, by omega, by go_num, RH.out, KH.out⟩
            case measure => simp [intOf]; omega
          · have hf2 : et = v := by rcases hat with t | t; exact absurd t hf; exact t
            subst hf2
            have qf : (ef != et) = true := by simpa using hf
            have qt : (et != et) = false := by simp
            clear hat
            go_wp2_with fail
            go_roundw
            case rel => exact ⟨k + 1, by omega, by go_num, RH.out, KH.out⟩
            case measure => simp [intOf]; omega
        · replace hat : atNode v (edAt es k) = false := by simpa using hat
          have TT := stay_next v es k (by omega) hat
          have hlen0 : ((stay v (es.take k)).map (mvEd v)).length ≤ k := by
            rw [List.length_map]
            exact Nat.le_trans (List.length_filter_le _ _) (by simp; omega)
          have HL' : Hid (∃ L', (stay v (es.take (k + 1))).map (mvEd v) = L') := ⟨_, rfl⟩
          obtain ⟨L', hL'⟩ := HL'.out
          have EL' := hid_of hL'
          rw [hL'] at TT
          clear hL' HL'
          generalize (stay v (es.take k)).map (mvEd v) = L at TT hlen0 R
          generalize edAt es k = ed at d1 d2 d3 d4 TT hat RG
          obtain ⟨ef, et, ec, ek⟩ := ed
          simp only at d1 d2 d3 d4
          simp only [mvEd] at TT
          simp only [atNode, Bool.or_eq_false_iff, beq_eq_false_iff_ne, ne_eq] at hat
          have qf : (ef != v) = true := by simpa using hat.1
          have qt : (et != v) = true := by simpa using hat.2
          simp only at RG
          have MF := hid_of (fun w => moved_calls v ef w (by have := RG.1; omega) (by have := RG.2.1; omega))
          have MT := hid_of (fun w => moved_calls v et w (by have := RG.2.2.1; omega) (by have := RG.2.2.2; omega))
          generalize moveOf v ef = mf at TT MF
          generalize moveOf v et = mt at TT MT
          clear hat RG
          have be0 : (wr.alloc (Obj.cells #[.int .i64 ef, .int .i64 et, .int .i64 ec, .int .i64 ek] 36)).cell? ⟨wr.heap.size, 0, none⟩ = some (.int .i64 ef) := by simp [go_sem]
          have be1 : (wr.alloc (Obj.cells #[.int .i64 ef, .int .i64 et, .int .i64 ec, .int .i64 ek] 36)).cell? ⟨wr.heap.size, 1, none⟩ = some (.int .i64 et) := by simp [go_sem]
          go_wp2_with fail
          refine (MF.out _).mono ?_
          rintro r w5 ⟨rfl, rfl⟩
          clear MF
          go_wp2_with fail
          refine (MT.out _).mono ?_
          rintro r w6 ⟨rfl, rfl⟩
          clear MT
          go_upto_region 11 with fail
          clear be0 be1 d1 d2 d3 d4
          have R8 := R.alloc (Obj.cells #[.int .i64 mf, .int .i64 mt, .int .i64 ec, .int .i64 ek] 36)
          have K8 := K.alloc (Obj.cells #[.int .i64 mf, .int .i64 mt, .int .i64 ec, .int .i64 ek] 36)
          have x0 : (wr.alloc (Obj.cells #[.int .i64 mf, .int .i64 mt, .int .i64 ec, .int .i64 ek] 36)).cell? ⟨wr.heap.size, 0, none⟩ = some (.int .i64 mf) := by simp [go_sem]
          have x1 : (wr.alloc (Obj.cells #[.int .i64 mf, .int .i64 mt, .int .i64 ec, .int .i64 ek] 36)).cell? ⟨wr.heap.size, 1, none⟩ = some (.int .i64 mt) := by simp [go_sem]
          have x2 : (wr.alloc (Obj.cells #[.int .i64 mf, .int .i64 mt, .int .i64 ec, .int .i64 ek] 36)).cell? ⟨wr.heap.size, 2, none⟩ = some (.int .i64 ec) := by simp [go_sem]
          have x3 : (wr.alloc (Obj.cells #[.int .i64 mf, .int .i64 mt, .int .i64 ec, .int .i64 ek] 36)).cell? ⟨wr.heap.size, 3, none⟩ = some (.int .i64 ek) := by simp [go_sem]
          generalize hW8 : wr.alloc (Obj.cells #[.int .i64 mf, .int .i64 mt, .int .i64 ec, .int .i64 ek] 36) = W8 at R8 K8 x0 x1 x2 x3 ⊢
          clear hW8 R K p1
          obtain ⟨bo, cp, m1, m2, m3⟩ := R8.c1
          have m0 := R8.c0
          have m4 := R8.z0
          have m5 := R8.z1
          have mge := R8.ge
          obtain ⟨m, hlen⟩ : ∃ m, L.length = m := ⟨_, rfl⟩
          rw [hlen] at m1 m2 m3 hlen0
          have lp : w.heap.size + 2 < W8.heap.size := lt_cell m1
          have bB : W1.heap.size ≤ W8.heap.size := K8.size
          have NW := hid_of (cell_new4 W8 36 ⟨mf, mt, ec, ek⟩)
          have HM := hid_of (World.ownsRow.alloc m2 (Obj.cells #[.int .i64 mf, .int .i64 mt, .int .i64 ec, .int .i64 ek] 36))
          have EXT := hid_of EL'.out
          have HLEN := hid_of hlen
          have M2 := hid_of m2
          have MZ := hid_of R8.zz
          clear hlen m2 R8 EL'
          go_wp2_with (at_builtin; refine wpList_append_lies _ (by rfl) (.tmp 55) (.tmp 57) 22 (by rfl) W1.heap.size 36 i0 _ 4 32 Try.underlying22 hi hz0 hz1 hz2 rfl (by decide) _ _ _ (by rfl) HM.out ⟨W8.heap.size, 0, none⟩ 1 1 (ecells ⟨mf, mt, ec, ek⟩) (by rfl) rfl NW.out (ecells_one _) (by decide) (by unfold maxLen; omega) (by omega) (by simp; omega) (W8.heap.size + 1) (by simp) ?_; intro g cap3 w1 own grow hat hlt; obtain ⟨ao5, cap5, e5, q1, q2, q3, q4⟩ := net_grow (wr := W8) (o := Obj.cells #[.int .i64 mf, .int .i64 mt, .int .i64 ec, .int .i64 ek] 36) (x := ⟨mf, mt, ec, ek⟩) HLEN.out.symm m0 m1 m3 m4 m5 mge MZ.out own grow (by rcases hat with t | t; exact .inl t.symm; exact .inr (by rw [t]; rfl)); have KX : Kept W1 (w1.setCell ⟨w.heap.size + 2, 1, none⟩ (.slice (some ⟨g, 0, none⟩) (m + 1) cap3)) := ((Below.grown (K8.alloc _) grow (K8.alloc _).size (fun j hj => (M2.out.lt j hj).1)).setCell (by have := HZ.out; simp only; omega) _))
          rw [← TT] at q3
          have Q3 : Hid (NetAt (w1.setCell ⟨w.heap.size + 2, 1, none⟩ (.slice (some ⟨g, 0, none⟩) (m + 1) cap3)) W1.heap.size (w.heap.size + 2) (nodes - 1) ((stay v (es.take (k + 1))).map (mvEd v))) := by rw [EXT.out]; exact q3
          have HX := hid_of KX
          clear q3 KX own grow hat q1 q2 q4 HM NW m0 m1 m3 m4 m5 TT x0 x1 x2 x3 K8 M2
          go_roundw
          case rel => exact ⟨k + 1, by omega, by go_num, Q3.out, HX.out⟩
          case measure => simp [intOf]; omega
      · obtain rfl : k = n := by omega
        have hall : es.take k = es := List.take_of_length_le hl2
        rw [hall] at R
        obtain ⟨bo, cp, m1, m2, m3⟩ := R.c1
        have m0 := R.c0
        rw [hn'.out] at m1 m2 m3
        have hlt : w.heap.size + 1 < W1.heap.size := by have := HZ.out; omega
        have s0 := K.cell f0
        have s1 := K.cell f1
        have s2 := (Below.frozen (p := ⟨w.heap.size + 1, 0, none⟩) K (lt_cell f0)).trans f2
        have s3 := (Below.frozen (p := ⟨w.heap.size + 1, 1, none⟩) K (lt_cell f1)).trans f3
        obtain ⟨t1, t2, t3, t4⟩ := box2w s0 s1 (.int .i64 (nodes - 1)) (.slice bo n' cp)
        have O2 := ownsRow_setCell_below (ownsRow_setCell_below m2 (a := ⟨w.heap.size + 1, 0, none⟩) hlt (.int .i64 (nodes - 1))) (a := ⟨w.heap.size + 1, 1, none⟩) hlt (.slice bo n' cp)
        have KK := ((KG.trans K).setCell (p := ⟨w.heap.size + 1, 0, none⟩) (by simp) (.int .i64 (nodes - 1))).setCell (p := ⟨w.heap.size + 1, 1, none⟩) (by simp) (.slice bo n' cp)
        clear R HR
        go_wp2
        refine bodyPost_ret (v := .tuple #[.agg #[.int .i64 (nodes - 1), .slice bo n' cp], .int .i64 0]) (by simp [results, Try.results27, go_sem, t3, t4]) rfl ⟨bo, cp, rfl, ERow.of_owns O2, owns_nil O2, fresh_of_owns O2 (by have := HZ.out; omega), KK⟩
  · rw [if_pos (by omega)] at hss
    simp only [Prod.mk.injEq] at hss
    obtain ⟨rfl, rfl, rfl⟩ := hss
    have hcI : v < 0 ∨ nodes ≤ v := by omega
    obtain rfl : n = n' := h.len.trans hn'.out
    have HB := hid_of h
    clear h hn'
    have KZ : Kept w ((w.alloc (Obj.cells #[.int .i64 nodes, .slice ao n cap] 24)).alloc (Obj.cells #[.int .i64 nodes, .slice ao n cap] 24)) := ((Kept.refl w).alloc _).alloc _
    rcases hcI with hcI | hcI
    · go_enter Try.func27, Try.ntmps27
      go_wp2_with fail
      exact bodyPost_ret (v := .tuple #[.agg #[.int .i64 nodes, .slice ao n cap], .int .i64 30]) (by simp [results, Try.results27, go_sem]) rfl ⟨ao, cap, rfl, HB.out.kept KZ, hnil, .inl ⟨rfl, rfl⟩, KZ⟩
    · have hi0 : ¬ v < 0 := by omega
      go_enter Try.func27, Try.ntmps27
      go_wp2_with fail
      exact bodyPost_ret (v := .tuple #[.agg #[.int .i64 nodes, .slice ao n cap], .int .i64 30]) (by simp [results, Try.results27, go_sem]) rfl ⟨ao, cap, rfl, HB.out.kept KZ, hnil, .inl ⟨rfl, rfl⟩, KZ⟩
end Go.Proofs.Ythefeijgpgcecaa

/- The document's CutEdge. -/
import Derived.Test.YthefeijgpgcecaaGrL
namespace Go.Proofs.Ythefeijgpgcecaa
open Go.RowKit

theorem cut_same (es : List Ed) (k : Nat) (hk : k < es.length) : (es.take (k + 1)).eraseIdx k = (es.take k).eraseIdx k := by
  have hl : (es.take k).length = k := by simp; omega
  have e1 : (es.take k).eraseIdx k = es.take k := List.eraseIdx_of_length_le (by omega)
  rw [e1, take_snoc es k hk, List.eraseIdx_append_of_length_le (by omega), hl]
  simp

theorem cut_next (es : List Ed) (i k : Nat) (hk : k < es.length) (hne : k ≠ i) : (es.take (k + 1)).eraseIdx i = (es.take k).eraseIdx i ++ [edAt es k] := by
  have hl : (es.take k).length = k := by simp; omega
  rw [take_snoc es k hk]
  by_cases h : k < i
  · rw [List.eraseIdx_of_length_le (by simp; omega), List.eraseIdx_of_length_le (by omega)]
  · rw [List.eraseIdx_append_of_lt_length (by omega)]

set_option maxRecDepth 100000 in
set_option maxHeartbeats 2000000 in
theorem cutR_calls (nodes : Int) (ao : Option Addr) (n cap : Nat) (es : List Ed) (at_ : Int) (w : World) (h : ERow w ao n cap es) (hb : n ≤ 4096) (hnil : ao = none → n = 0 ∧ cap = 0) (es' : List Ed) (c : Int) (hs : Hid (cutOf es at_ = (es', c))) (n' : Nat) (hn' : Hid (es'.length = n')) :
    Calls Try.prog 26 #[.agg #[.int .i64 nodes, .slice ao n cap], .int .i64 at_] w fun r w' => ∃ ao' cap', r = .returned (.tuple #[.agg #[.int .i64 nodes, .slice ao' n' cap'], .int .i64 c]) ∧ ERow w' ao' n' cap' es' ∧ (ao' = none → n' = 0 ∧ cap' = 0) ∧ Fresh w.heap.size ao n ao' n' ∧ Kept w w' := by
  have hl1 : n ≤ es.length := Nat.le_of_eq h.len
  have hl2 : es.length ≤ n := Nat.le_of_eq h.len.symm
  have hr := h.room
  have hm := h.most
  unfold maxLen at hm
  have hss := hs.out
  unfold cutOf at hss
  clear hs
  by_cases hc : 0 ≤ at_ ∧ at_ < (n : Int)
  · rw [if_neg (by omega)] at hss
    obtain ⟨i, rfl⟩ : ∃ i : Nat, at_ = (i : Int) := ⟨at_.toNat, by omega⟩
    simp only [Prod.mk.injEq, Int.toNat_natCast] at hss
    obtain ⟨rfl, rfl⟩ := hss
    have hi2 : (i : Int) < (n : Int) := hc.2
    obtain ⟨i0, hi, hz0, hz1, hz2⟩ := infoE
    have KG : Kept w ((w.alloc (Obj.cells #[.int .i64 nodes, .slice ao n cap] 24)).alloc (Obj.cells #[.int .i64 0, .slice none 0 0] 24)) := ((Kept.refl w).alloc _).alloc _
    have g1 : ((w.alloc (Obj.cells #[.int .i64 nodes, .slice ao n cap] 24)).alloc (Obj.cells #[.int .i64 0, .slice none 0 0] 24)).cell? ⟨w.heap.size, 1, none⟩ = some (.slice ao n cap) := by simp [go_sem]
    have f0 : ((w.alloc (Obj.cells #[.int .i64 nodes, .slice ao n cap] 24)).alloc (Obj.cells #[.int .i64 0, .slice none 0 0] 24)).cell? ⟨w.heap.size + 1, 0, none⟩ = some (.int .i64 0) := by simp [go_sem]
    have f1 : ((w.alloc (Obj.cells #[.int .i64 nodes, .slice ao n cap] 24)).alloc (Obj.cells #[.int .i64 0, .slice none 0 0] 24)).cell? ⟨w.heap.size + 1, 1, none⟩ = some (.slice none 0 0) := by simp [go_sem]
    have f2 : ((w.alloc (Obj.cells #[.int .i64 nodes, .slice ao n cap] 24)).alloc (Obj.cells #[.int .i64 0, .slice none 0 0] 24)).frozen? ⟨w.heap.size + 1, 0, none⟩ = false := by simp [go_sem]
    have f3 : ((w.alloc (Obj.cells #[.int .i64 nodes, .slice ao n cap] 24)).alloc (Obj.cells #[.int .i64 0, .slice none 0 0] 24)).frozen? ⟨w.heap.size + 1, 1, none⟩ = false := by simp [go_sem]
    have hz : ((w.alloc (Obj.cells #[.int .i64 nodes, .slice ao n cap] 24)).alloc (Obj.cells #[.int .i64 0, .slice none 0 0] 24)).heap.size = w.heap.size + 2 := by simp
    clear hc
    have hin : ¬ (i : Int) < 0 := by omega
    have hin2 : ¬ (n : Int) ≤ (i : Int) := by omega
    go_enter Try.func26, Try.ntmps26
    go_wp2_with fail
    generalize (w.alloc (Obj.cells #[.int .i64 nodes, .slice ao n cap] 24)).alloc (Obj.cells #[.int .i64 0, .slice none 0 0] 24) = W1 at KG g1 f0 f1 f2 f3 hz ⊢
    have HR := hid_of (h.kept KG)
    have N0 : NetAt (W1.alloc (Obj.cells #[.int .i64 nodes, .slice none 0 0] 24)) W1.heap.size (w.heap.size + 2) nodes [] := by
      rw [← hz]
      exact ⟨by simp [go_sem], ⟨none, 0, by simp [go_sem], World.ownsRow_nil _ _ _ _, by simp [Value.ownBlock]⟩, by simp [go_sem], by simp [go_sem], Nat.le_refl _, fun q => by simp [go_sem]⟩
    have HZ := hid_of hz
    clear h hz
    go_loopw [7] (fun j wr => ∃ (k : Nat), k ≤ n ∧ j = .int .i64 k ∧ NetAt wr W1.heap.size (w.heap.size + 2) nodes ((es.take k).eraseIdx i) ∧ Kept W1 wr) (fun i _ => n - (intOf i).toNat)
    case atStart => exact ⟨0, by omega, rfl, N0, (Kept.refl _).alloc _⟩
    case round =>
      obtain ⟨k, hk, rfl, R, K⟩ := hrel
      clear N0
      have p1 := K.cell g1
      by_cases hgo : (k : Int) < (n : Int)
      · by_cases hki : k = i
        · subst hki
          have TT := cut_same es k (by omega)
          rw [← TT] at R
          have RH := hid_of R
          have KH := hid_of K
          have qk : ((k : Int) != (k : Int)) = false := by simp
          clear R K TT
          go_wp2_with fail
          go_roundw
          case rel => exact ⟨k + 1, by omega, by go_num, RH.out, KH.out⟩
          case measure => simp [intOf]; omega
        · have qk : ((k : Int) != (i : Int)) = true := by simp; omega
          have hki2 : ¬ (k : Int) = (i : Int) := by omega
          obtain ⟨b, off, rfl, hc⟩ := HR.out.cell (by omega)
          obtain ⟨c1, c2, c3, c4⟩ := hc k (by omega)
          have d1 := K.cell c1
          have d2 := K.cell c2
          have d3 := K.cell c3
          have d4 := K.cell c4
          clear hc c1 c2 c3 c4
          have TT := cut_next es i k (by omega) hki
          have hlen0 : ((es.take k).eraseIdx i).length ≤ k := by rw [List.length_eraseIdx]; split <;> simp <;> omega
          have HL' : Hid (∃ L', (es.take (k + 1)).eraseIdx i = L') := ⟨_, rfl⟩
          obtain ⟨L', hL'⟩ := HL'.out
          have EL' := hid_of hL'
          rw [hL'] at TT
          clear hL' HL'
          generalize (es.take k).eraseIdx i = L at TT hlen0 R
          generalize edAt es k = ed at d1 d2 d3 d4 TT
          obtain ⟨ef, et, ec, ek⟩ := ed
          simp only at d1 d2 d3 d4
          obtain ⟨bo, cp, m1, m2, m3⟩ := R.c1
          have m0 := R.c0
          have m4 := R.z0
          have m5 := R.z1
          have mge := R.ge
          obtain ⟨m, hlen⟩ : ∃ m, L.length = m := ⟨_, rfl⟩
          rw [hlen] at m1 m2 m3 hlen0
          have lp : w.heap.size + 2 < wr.heap.size := lt_cell m1
          have bB : W1.heap.size ≤ wr.heap.size := K.size
          have NW := hid_of (cell_new4 wr.drew 36 ⟨ef, et, ec, ek⟩)
          have HM := hid_of (World.ownsRow.alloc m2.drew (Obj.cells #[.int .i64 ef, .int .i64 et, .int .i64 ec, .int .i64 ek] 36))
          have EXT := hid_of EL'.out
          go_wp2_with fail
          go_region_law ((refine step_append_lies _ (by rfl) (.tmp 32) (.tmp 38) 22 (by rfl) W1.heap.size 36 i0 _ 4 32 Try.underlying22 hi hz0 hz1 hz2 rfl (by decide) _ _ _ (by rfl) HM.out ⟨wr.heap.size, 0, none⟩ 1 1 (ecells ⟨ef, et, ec, ek⟩) (by rfl) rfl NW.out (ecells_one _) (by decide) (by unfold maxLen; omega) (by omega) (by simp; omega) (wr.heap.size + 1) (by simp) ?_; intro g cap3 w1 own grow hat hlt; obtain ⟨ao5, cap5, e5, q1, q2, q3, q4⟩ := net_grow (wr := wr.drew) (o := Obj.cells #[.int .i64 ef, .int .i64 et, .int .i64 ec, .int .i64 ek] 36) (x := ⟨ef, et, ec, ek⟩) hlen.symm m0 m1 m3 m4 m5 mge R.zz own grow (by rcases hat with t | t; exact .inl t.symm; exact .inr (by rw [t]; rfl)); have KX : Kept W1 (w1.setCell ⟨w.heap.size + 2, 1, none⟩ (.slice (some ⟨g, 0, none⟩) (m + 1) cap3)) := ((Below.grown (K.drew.alloc _) grow (K.drew.alloc _).size (fun j hj => (m2.lt j hj).1)).setCell (by have := HZ.out; simp only; omega) _)))
          all_goals
            rw [← TT] at q3
            have Q3 : Hid (NetAt (w1.setCell ⟨w.heap.size + 2, 1, none⟩ (.slice (some ⟨g, 0, none⟩) (m + 1) cap3)) W1.heap.size (w.heap.size + 2) nodes ((es.take (k + 1)).eraseIdx i)) := by rw [EXT.out]; exact q3
            have HX := hid_of KX
            clear q3 KX own grow hat q1 q2 q4 HM NW d1 d2 d3 d4 m0 m1 m2 m3 m4 m5 R TT
            go_wp2_with fail
            go_roundw
            case rel => exact ⟨k + 1, by omega, by go_num, Q3.out, HX.out⟩
            case measure => simp [intOf]; omega
      · obtain rfl : k = n := by omega
        have hall : es.take k = es := List.take_of_length_le hl2
        rw [hall] at R
        obtain ⟨bo, cp, m1, m2, m3⟩ := R.c1
        have m0 := R.c0
        rw [hn'.out] at m1 m2 m3
        have hlt : w.heap.size + 1 < W1.heap.size := by have := HZ.out; omega
        have s0 := K.cell f0
        have s1 := K.cell f1
        have s2 := (Below.frozen (p := ⟨w.heap.size + 1, 0, none⟩) K (lt_cell f0)).trans f2
        have s3 := (Below.frozen (p := ⟨w.heap.size + 1, 1, none⟩) K (lt_cell f1)).trans f3
        obtain ⟨t1, t2, t3, t4⟩ := box2w s0 s1 (.int .i64 nodes) (.slice bo n' cp)
        have O2 := ownsRow_setCell_below (ownsRow_setCell_below m2 (a := ⟨w.heap.size + 1, 0, none⟩) hlt (.int .i64 nodes)) (a := ⟨w.heap.size + 1, 1, none⟩) hlt (.slice bo n' cp)
        have KK := ((KG.trans K).setCell (p := ⟨w.heap.size + 1, 0, none⟩) (by simp) (.int .i64 nodes)).setCell (p := ⟨w.heap.size + 1, 1, none⟩) (by simp) (.slice bo n' cp)
        clear R HR
        go_wp2
        refine bodyPost_ret (v := .tuple #[.agg #[.int .i64 nodes, .slice bo n' cp], .int .i64 0]) (by simp [results, Try.results26, go_sem, t3, t4]) rfl ⟨bo, cp, rfl, ERow.of_owns O2, owns_nil O2, fresh_of_owns O2 (by have := HZ.out; omega), KK⟩
  · rw [if_pos (by omega)] at hss
    simp only [Prod.mk.injEq] at hss
    obtain ⟨rfl, rfl⟩ := hss
    have hcI : at_ < 0 ∨ (n : Int) ≤ at_ := by omega
    obtain rfl : n = n' := h.len.trans hn'.out
    have HB := hid_of h
    clear h hn'
    have KZ : Kept w ((w.alloc (Obj.cells #[.int .i64 nodes, .slice ao n cap] 24)).alloc (Obj.cells #[.int .i64 nodes, .slice ao n cap] 24)) := ((Kept.refl w).alloc _).alloc _
    rcases hcI with hcI | hcI
    · go_enter Try.func26, Try.ntmps26
      go_wp2_with fail
      exact bodyPost_ret (v := .tuple #[.agg #[.int .i64 nodes, .slice ao n cap], .int .i64 32]) (by simp [results, Try.results26, go_sem]) rfl ⟨ao, cap, rfl, HB.out.kept KZ, hnil, .inl ⟨rfl, rfl⟩, KZ⟩
    · have hi0 : ¬ at_ < 0 := by omega
      go_enter Try.func26, Try.ntmps26
      go_wp2_with fail
      exact bodyPost_ret (v := .tuple #[.agg #[.int .i64 nodes, .slice ao n cap], .int .i64 32]) (by simp [results, Try.results26, go_sem]) rfl ⟨ao, cap, rfl, HB.out.kept KZ, hnil, .inl ⟨rfl, rfl⟩, KZ⟩
end Go.Proofs.Ythefeijgpgcecaa

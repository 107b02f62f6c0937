/- GraphRight: the walk of the law. -/
import Derived.Test.YthefeijgpgcecaaGrR
import Derived.Deep.DeepCutAuto
import Derived.Deep.CutBlock
namespace Go.Proofs.Ythefeijgpgcecaa
open Go.RowKit

set_option maxRecDepth 100000 in
set_option linter.unusedSimpArgs false in
set_option maxHeartbeats 4000000 in
theorem graphRightWalk (nodes : Int) (ao : Option Addr) (n cap : Nat) (es : List Ed) (bo : Option Addr) (len cbp : Nat) (os : List GOp) (ed : Ed) (w : World) (h : ERow w ao n cap es) (hb : n * 32 ≤ 140737488355328) (hnil : ao = none → n = 0 ∧ cap = 0) (ho : ORow w bo len cbp os) :
    Calls Try.prog 4 #[.agg #[.int .i64 nodes, .slice ao n cap], .slice bo len cbp, ed.val] w fun v w' => v = .returned (.bool true) ∧ Kept w w' := by
  obtain ⟨c, a, hf⟩ : ∃ c a, Hid (faultOf nodes es = (c, a)) := ⟨_, _, hid_of rfl⟩
  have hnot : ∀ (x : Bool) (w : World), (Op.unary .not (.bool x)).run Try.prog w = .ok (.bool (!x)) w := fun _ _ => rfl
  obtain ⟨ef, et, ec, ek⟩ := ed
  have hr := ho.room
  have hm := ho.most
  unfold maxLen at hm
  have KG : Kept w ((w.alloc (Obj.cells #[.int .i64 nodes, .slice ao n cap] 24)).alloc (Obj.cells #[.int .i64 ef, .int .i64 et, .int .i64 ec, .int .i64 ek] 36)) := ((Kept.refl w).alloc _).alloc _
  have g0 : ((w.alloc (Obj.cells #[.int .i64 nodes, .slice ao n cap] 24)).alloc (Obj.cells #[.int .i64 ef, .int .i64 et, .int .i64 ec, .int .i64 ek] 36)).cell? ⟨w.heap.size, 0, none⟩ = some (.int .i64 nodes) := by simp [go_sem]
  have g1 : ((w.alloc (Obj.cells #[.int .i64 nodes, .slice ao n cap] 24)).alloc (Obj.cells #[.int .i64 ef, .int .i64 et, .int .i64 ec, .int .i64 ek] 36)).cell? ⟨w.heap.size, 1, none⟩ = some (.slice ao n cap) := by simp [go_sem]
  have m0 : ((w.alloc (Obj.cells #[.int .i64 nodes, .slice ao n cap] 24)).alloc (Obj.cells #[.int .i64 ef, .int .i64 et, .int .i64 ec, .int .i64 ek] 36)).cell? ⟨w.heap.size + 1, 0, none⟩ = some (.int .i64 ef) := by simp [go_sem]
  have m1 : ((w.alloc (Obj.cells #[.int .i64 nodes, .slice ao n cap] 24)).alloc (Obj.cells #[.int .i64 ef, .int .i64 et, .int .i64 ec, .int .i64 ek] 36)).cell? ⟨w.heap.size + 1, 1, none⟩ = some (.int .i64 et) := by simp [go_sem]
  have m2 : ((w.alloc (Obj.cells #[.int .i64 nodes, .slice ao n cap] 24)).alloc (Obj.cells #[.int .i64 ef, .int .i64 et, .int .i64 ec, .int .i64 ek] 36)).cell? ⟨w.heap.size + 1, 2, none⟩ = some (.int .i64 ec) := by simp [go_sem]
  have m3 : ((w.alloc (Obj.cells #[.int .i64 nodes, .slice ao n cap] 24)).alloc (Obj.cells #[.int .i64 ef, .int .i64 et, .int .i64 ec, .int .i64 ek] 36)).cell? ⟨w.heap.size + 1, 3, none⟩ = some (.int .i64 ek) := by simp [go_sem]
  go_enter Try.func4, Try.ntmps4
  go_wp2_with fail
  generalize hW0 : (w.alloc (Obj.cells #[.int .i64 nodes, .slice ao n cap] 24)).alloc (Obj.cells #[.int .i64 ef, .int .i64 et, .int .i64 ec, .int .i64 ek] 36) = W0 at KG g0 g1 m0 m1 m2 m3 ⊢
  clear hW0
  refine (awake_calls _).mono ?_
  rintro v wa ⟨rfl, K1⟩
  have ga0 := K1.cell g0
  have ga1 := K1.cell g1
  have HA := hid_of (h.kept (KG.trans K1))
  have HO := hid_of (ho.kept KG)
  have KA := hid_of K1
  clear h ho K1 g0 g1
  go_wp2_with fail
  refine (from_calls nodes ao n cap es wa HA.out hb hnil c a hf).mono ?_
  rintro v wb ⟨ptr, rfl, K2, hp1, hp2⟩
  have KB := hid_of ((KA.out.trans K2).alloc (Obj.cells #[.int .i64 c, .int .i64 a] 30))
  have f0 : (wb.alloc (Obj.cells #[.int .i64 c, .int .i64 a] 30)).cell? ⟨wb.heap.size, 0, none⟩ = some (.int .i64 c) := by simp [go_sem]
  by_cases hc : c = 0
  · subst hc
    obtain ⟨p, rfl, N0⟩ := hp2 rfl
    obtain ⟨F0, NF, LF⟩ := N0.toF
    have RI := hid_of (right_of hf.out)
    have K3 : Kept wb (wb.alloc (Obj.cells #[.int .i64 0, .int .i64 a] 30)) := (Kept.refl wb).alloc _
    have NH := hid_of (NF.kept K3)
    have LH : Hid (∀ k, F0 k → W0.heap.size ≤ k) := fun k hk => Nat.le_trans KA.out.size (LF k hk)
    clear hp1 hp2 N0 NF LF K2 K3 HA ga0 ga1 f0 hf KA
    go_wp2_with fail
    generalize hW2 : wb.alloc (Obj.cells #[.int .i64 0, .int .i64 a] 30) = W2 at KB NH ⊢
    clear hW2
    go_loopw [10, 11, 12, 13, 31] (fun _ _ _ _ i wr => ∃ k : Nat, k ≤ len ∧ i = .int .i64 (k : Int) ∧ Kept W0 wr ∧ ∃ F nd xs, NetF wr F p nd xs ∧ Right nd xs ∧ (∀ x, F x → W0.heap.size ≤ x)) (fun _ _ _ _ i _ => len - (intOf i).toNat)
    case atStart => exact ⟨0, by omega, rfl, KB.out, F0, nodes, es, NH.out, RI.out, LH.out⟩
    case round =>
      obtain ⟨k, hk, rfl, KR, F, nd, xs, NR, RR, LR⟩ := hrel
      have KRH := hid_of KR
      have NRH := hid_of NR
      have RRH := hid_of RR
      have LRH := hid_of LR
      clear NH RI LH KB LR NR RR
      by_cases hgo : (k : Int) < (len : Int)
      · obtain ⟨b, off, rfl, hcl⟩ := HO.out.cell (by omega)
        obtain ⟨d0, d1, d2, d3, d4, d5⟩ := hcl k (by omega)
        replace d0 := KR.cell d0
        replace d1 := KR.cell d1
        replace d2 := KR.cell d2
        replace d3 := KR.cell d3
        replace d4 := KR.cell d4
        replace d5 := KR.cell d5
        clear hcl KR
        generalize gopAt os k = o at d0 d1 d2 d3 d4 d5
        obtain ⟨x0, x1, y0, y1, y2, y3⟩ := o
        simp only at d0 d1 d2 d3 d4 d5
        have K4 : Kept wr (wr.alloc (Obj.cells #[.int .i64 x0, .int .i64 x1, .int .i64 y0, .int .i64 y1, .int .i64 y2, .int .i64 y3] 38)) := (Kept.refl wr).alloc _
        have e0 : (wr.alloc (Obj.cells #[.int .i64 x0, .int .i64 x1, .int .i64 y0, .int .i64 y1, .int .i64 y2, .int .i64 y3] 38)).cell? ⟨wr.heap.size, 0, none⟩ = some (.int .i64 x0) := by simp [go_sem]
        have e1 : (wr.alloc (Obj.cells #[.int .i64 x0, .int .i64 x1, .int .i64 y0, .int .i64 y1, .int .i64 y2, .int .i64 y3] 38)).cell? ⟨wr.heap.size, 1, none⟩ = some (.int .i64 x1) := by simp [go_sem]
        have e2 : (wr.alloc (Obj.cells #[.int .i64 x0, .int .i64 x1, .int .i64 y0, .int .i64 y1, .int .i64 y2, .int .i64 y3] 38)).cell? ⟨wr.heap.size, 2, none⟩ = some (.int .i64 y0) := by simp [go_sem]
        have e3 : (wr.alloc (Obj.cells #[.int .i64 x0, .int .i64 x1, .int .i64 y0, .int .i64 y1, .int .i64 y2, .int .i64 y3] 38)).cell? ⟨wr.heap.size, 3, none⟩ = some (.int .i64 y1) := by simp [go_sem]
        have e4 : (wr.alloc (Obj.cells #[.int .i64 x0, .int .i64 x1, .int .i64 y0, .int .i64 y1, .int .i64 y2, .int .i64 y3] 38)).cell? ⟨wr.heap.size, 4, none⟩ = some (.int .i64 y2) := by simp [go_sem]
        have e5 : (wr.alloc (Obj.cells #[.int .i64 x0, .int .i64 x1, .int .i64 y0, .int .i64 y1, .int .i64 y2, .int .i64 y3] 38)).cell? ⟨wr.heap.size, 5, none⟩ = some (.int .i64 y3) := by simp [go_sem]
        have lwr : wr.heap.size < (wr.alloc (Obj.cells #[.int .i64 x0, .int .i64 x1, .int .i64 y0, .int .i64 y1, .int .i64 y2, .int .i64 y3] 38)).heap.size := by simp
        go_wp2_with fail
        generalize hW4 : wr.alloc (Obj.cells #[.int .i64 x0, .int .i64 x1, .int .i64 y0, .int .i64 y1, .int .i64 y2, .int .i64 y3] 38) = W4 at K4 e0 e1 e2 e3 e4 e5 lwr ⊢
        clear hW4 d0 d1 d2 d3 d4 d5
        refine (plain_calls W4 0 p nd xs (NRH.out.kept K4).at (by have := RRH.out.len; omega)).mono ?_
        rintro v w5 ⟨ao5, cap5, rfl, O5, K5⟩
        have K6 := K5.alloc (Obj.cells #[.int .i64 nd, .slice ao5 xs.length cap5] 24)
        have u0 : (w5.alloc (Obj.cells #[.int .i64 nd, .slice ao5 xs.length cap5] 24)).cell? ⟨w5.heap.size, 0, none⟩ = some (.int .i64 nd) := by simp [go_sem]
        have u1 : (w5.alloc (Obj.cells #[.int .i64 nd, .slice ao5 xs.length cap5] 24)).cell? ⟨w5.heap.size, 1, none⟩ = some (.slice ao5 xs.length cap5) := by simp [go_sem]
        replace e0 := K6.cell e0
        replace e1 := K6.cell e1
        replace e2 := K6.cell e2
        replace e3 := K6.cell e3
        replace e4 := K6.cell e4
        replace e5 := K6.cell e5
        have O6 := hid_of (O5.alloc (Obj.cells #[.int .i64 nd, .slice ao5 xs.length cap5] 24))
        have N6 := hid_of ((NRH.out.kept K4).kept K6)
        have K6H := hid_of ((KRH.out.trans K4).trans K6)
        have lw5 := K5.size
        clear K4 K5 K6 O5
        go_upto_block 2 with fail
        generalize hW6 : w5.alloc (Obj.cells #[.int .i64 nd, .slice ao5 xs.length cap5] 24) = W6 at e0 e1 e2 e3 e4 e5 u0 u1 O6 N6 K6H ⊢
        clear hW6
        go_cut [12] (fun x wx => ∃ F' n' zs c, x = .int .i64 c ∧ NetF wx F' p n' zs ∧ editOf nd xs ⟨x0, x1, ⟨y0, y1, y2, y3⟩⟩ = (n', zs, c) ∧ Ch F W6 wx ∧ ∀ k, F' k → F k ∨ W6.heap.size ≤ k)
        case first =>
          by_cases h0 : x0 = 0
          · subst h0
            obtain ⟨n', r', c', hA⟩ : ∃ n' r' c', Hid (addNodeOf nd = (n', r', c')) := ⟨_, _, _, hid_of rfl⟩
            have AC := hid_of (addNode_calls W6 F p nd xs N6.out RRH.out.lo n' r' c' hA)
            go_wp2_with (go_at_call 14; refine AC.out.mono ?_; rintro v w7 ⟨rfl, N7, C7⟩)
            go_meet
            exact ⟨F, n', xs, c', rfl, N7, by simp [editOf, hA.out], C7, fun k t => .inl t⟩
          · have b0 : (x0 == 0) = false := by simpa using h0
            by_cases h1 : x0 = 1
            · subst h1
              obtain ⟨n', r', c', hA⟩ : ∃ n' r' c', Hid (addOf nd xs ⟨y0, y1, y2, y3⟩ = (n', r', c')) := ⟨_, _, _, hid_of rfl⟩
              have AC := hid_of (addF_calls W6 F p nd xs ⟨y0, y1, y2, y3⟩ N6.out n' r' c' hA)
              go_wp2_with (go_at_call 15; refine AC.out.mono ?_; rintro v w7 ⟨rfl, F7, N7, C7, L7⟩)
              go_meet
              exact ⟨F7, nd, n', c', rfl, N7, by simp [editOf, hA.out], C7, L7⟩
            · have b1 : (x0 == 1) = false := by simpa using h1
              by_cases h2 : x0 = 2
              · subst h2
                obtain ⟨n', c', hA⟩ : ∃ n' c', Hid (setOf nd xs x1 ⟨y0, y1, y2, y3⟩ = (n', c')) := ⟨_, _, hid_of rfl⟩
                have AC := hid_of (set_calls W6 F p nd xs N6.out x1 ⟨y0, y1, y2, y3⟩ n' c' hA)
                go_wp2_with (go_at_call 16; refine AC.out.mono ?_; rintro v w7 ⟨rfl, N7, C7⟩)
                go_meet
                exact ⟨F, nd, n', c', rfl, N7, by simp [editOf, hA.out], C7, fun k t => .inl t⟩
              · have b2 : (x0 == 2) = false := by simpa using h2
                by_cases h3 : x0 = 3
                · subst h3
                  obtain ⟨n', c', hA⟩ : ∃ n' c', Hid (cutOf xs x1 = (n', c')) := ⟨_, _, hid_of rfl⟩
                  have AC := hid_of (cut_calls W6 F p nd xs N6.out RRH.out.len x1 n' c' hA)
                  go_wp2_with (go_at_call 17; refine AC.out.mono ?_; rintro v w7 ⟨rfl, N7, C7⟩)
                  go_meet
                  exact ⟨F, nd, n', c', rfl, N7, by simp [editOf, hA.out], C7, fun k t => .inl t⟩
                · have b3 : (x0 == 3) = false := by simpa using h3
                  by_cases h4 : x0 = 4
                  · subst h4
                    obtain ⟨n', z', c', hA⟩ : ∃ n' z' c', Hid (cutNodeOf nd xs x1 = (n', z', c')) := ⟨_, _, _, hid_of rfl⟩
                    have AC := hid_of (cutNode_calls W6 F p nd xs N6.out RRH.out.len RRH.out.lo RRH.out.hi RRH.out.small x1 n' z' c' hA)
                    go_wp2_with (go_at_call 18; refine AC.out.mono ?_; rintro v w7 ⟨rfl, N7, C7⟩)
                    go_meet
                    exact ⟨F, n', z', c', rfl, N7, by simp [editOf, hA.out], C7, fun k t => .inl t⟩
                  · have b4 : (x0 == 4) = false := by simpa using h4
                    go_wp2_with fail
                    go_meet
                    exact ⟨F, nd, xs, 0, rfl, N6.out, by simp [editOf, h0, h1, h2, h3, h4], Ch.refl _ _, fun k t => .inl t⟩
        case rest =>
          obtain ⟨F7, n7, zs, c7, rfl, N7, E7, C7, L7⟩ := hcut
          have nF5 : ¬ F w5.heap.size := fun t => by have := NRH.out.lt _ t; omega
          have v0 := C7.cell u0 nF5
          have v1 := C7.cell u1 nF5
          have O7 := hid_of (C7.owns O6.out (fun k e t => by have := NRH.out.lt _ t; have := (O6.out.lt k e).1; omega))
          have K7 := hid_of (K6H.out.ch C7 LRH.out)
          obtain ⟨R7', U7'⟩ := RRH.out.edit _ E7
          have R7 := hid_of R7'
          have U7 := hid_of U7'
          have L8 : Hid (∀ x, F7 x → W0.heap.size ≤ x) := fun x hx => by
            rcases L7 x hx with t | t
            · exact LRH.out x t
            · exact Nat.le_trans K6H.out.size t
          have N7H := hid_of N7
          clear N7 E7 C7 L7 R7' U7' N6 O6 K6H u0 u1 e0 e1 e2 e3 e4 e5 LRH NRH KRH RRH
          have PC := hid_of (plain_calls wc 0 p n7 zs N7H.out.at (by have := R7.out.len; omega))
          go_wp2_with (go_at_call 13; refine PC.out.mono ?_; rintro v w8 ⟨ao8, cap8, rfl, O8, K8⟩; have K9 := K8.alloc (Obj.cells #[.int .i64 n7, .slice ao8 zs.length cap8] 24); have s0 : (w8.alloc (Obj.cells #[.int .i64 n7, .slice ao8 zs.length cap8] 24)).cell? ⟨w8.heap.size, 0, none⟩ = some (.int .i64 n7) := by simp [go_sem])
          have s1 : (w8.alloc (Obj.cells #[.int .i64 n7, .slice ao8 zs.length cap8] 24)).cell? ⟨w8.heap.size, 1, none⟩ = some (.slice ao8 zs.length cap8) := by simp [go_sem]
          have O9 := hid_of (O8.alloc (Obj.cells #[.int .i64 n7, .slice ao8 zs.length cap8] 24))
          have O7a := hid_of (ownsK O7.out K9)
          have v0a := K9.cell v0
          have v1a := K9.cell v1
          have N9 := hid_of (N7H.out.kept K9)
          have K9H := hid_of (K7.out.trans K9)
          clear PC O8 K8 K9 O7 v0 v1 N7H K7 nF5
          generalize hW9 : w8.alloc (Obj.cells #[.int .i64 n7, .slice ao8 zs.length cap8] 24) = W9 at s0 s1 O9 O7a v0a v1a N9 K9H ⊢
          clear hW9
          refine (check_calls n7 ao8 zs.length cap8 zs W9 (ERow.of_owns O9.out) 0 0 (hid_of R7.out.fault)).mono ?_
          rintro v wX ⟨rfl, K10⟩
          have s0b := K10.cell s0
          have s1b := K10.cell s1
          have v0b := K10.cell v0a
          have v1b := K10.cell v1a
          have NX := hid_of (N9.out.kept K10)
          have KX := hid_of (K9H.out.trans K10)
          have EX := hid_of ((ERow.of_owns O9.out).kept K10)
          have EY := hid_of ((ERow.of_owns O7a.out).kept K10)
          clear s0 s1 v0a v1a N9 K9H O9 O7a K10
          have hfd : ∀ w : World, (Instr.field 30 (.agg #[.int .i64 0, .int .i64 0]) 0).run Try.prog w = .ok (.int .i64 0) w := fun _ => by kernel_rfl
          by_cases hc7 : c7 = 0
          · subst hc7
            go_wp2_with fail
            go_roundw
            case rel => exact ⟨k + 1, by omega, by go_num, KX.out, F7, n7, zs, NX.out, R7.out, L8.out⟩
            case measure => simp [intOf]; omega
          · have q7 : (c7 != 0) = true := by simpa using hc7
            obtain ⟨rfl, rfl⟩ := U7.out hc7
            have SC := hid_of (same_calls n7 ao5 ao8 zs.length cap5 cap8 zs wX EY.out EX.out)
            clear U7 EX EY
            go_wp2_with (go_at_call 12; refine SC.out.mono ?_; rintro v w12 ⟨rfl, K12⟩)
            have KY := hid_of (KX.out.trans K12)
            have NY := hid_of (NX.out.kept K12)
            clear SC KX NX K12
            go_roundw
            case rel => exact ⟨k + 1, by omega, by go_num, KY.out, F7, n7, zs, NY.out, R7.out, L8.out⟩
            case measure => simp [intOf]; omega
      · have r0 := KR.cell m0
        have r1 := KR.cell m1
        have r2 := KR.cell m2
        have r3 := KR.cell m3
        clear KR HO
        go_wp2_with fail
        refine (plain_calls wr 0 p nd xs NRH.out.at (by have := RRH.out.len; omega)).mono ?_
        rintro v w5 ⟨ao5, cap5, rfl, O5, K5⟩
        have K6 := K5.alloc (Obj.cells #[.int .i64 nd, .slice ao5 xs.length cap5] 24)
        have u0 : (w5.alloc (Obj.cells #[.int .i64 nd, .slice ao5 xs.length cap5] 24)).cell? ⟨w5.heap.size, 0, none⟩ = some (.int .i64 nd) := by simp [go_sem]
        have u1 : (w5.alloc (Obj.cells #[.int .i64 nd, .slice ao5 xs.length cap5] 24)).cell? ⟨w5.heap.size, 1, none⟩ = some (.slice ao5 xs.length cap5) := by simp [go_sem]
        replace r0 := K6.cell r0
        replace r1 := K6.cell r1
        replace r2 := K6.cell r2
        replace r3 := K6.cell r3
        have O6 := hid_of (O5.alloc (Obj.cells #[.int .i64 nd, .slice ao5 xs.length cap5] 24))
        have N6 := hid_of (NRH.out.kept K6)
        have K6H := hid_of (KRH.out.trans K6)
        have lw5 := K5.size
        clear K5 K6 O5
        have lF : Hid (∀ k, F k → k < wr.heap.size) := NRH.out.lt
        go_upto_region 27 with fail
        generalize hW6 : w5.alloc (Obj.cells #[.int .i64 nd, .slice ao5 xs.length cap5] 24) = W6 at u0 u1 r0 r1 r2 r3 O6 N6 K6H ⊢
        clear hW6 NRH KRH
        by_cases hbad : (addOf nd xs ⟨ef, et, ec, ek⟩).2.2 = 0
        · have hE : addOf nd xs ⟨ef, et, ec, ek⟩ = (xs ++ [⟨ef, et, ec, ek⟩], (xs.length : Int), 0) ∧ xs.length < 4096 := by
            unfold addOf at hbad ⊢
            split at hbad
            · simp at hbad
            · split at hbad
              · rename_i t; exact absurd hbad t
              · rename_i c1 c2
                rw [if_neg c1, if_neg c2]
                exact ⟨rfl, by omega⟩
          have AC := hid_of (addF_calls _ F p nd xs ⟨ef, et, ec, ek⟩ N6.out _ _ _ (hid_of hE.1))
          have lx := hE.2
          clear hbad hE
          go_wp2_with (go_at_call 15; refine AC.out.mono ?_; rintro v w7 ⟨rfl, F7, N7, C7, L7⟩)
          have l6 : w5.heap.size < W6.heap.size := lt_cell u0
          have nF5 : ¬ F w5.heap.size := fun t => by have := lF.out _ t; omega
          have nF7 : ¬ F7 w5.heap.size := fun t => by
            rcases L7 _ t with s | s
            · exact nF5 s
            · omega
          have v0 := C7.cell u0 nF5
          have v1 := C7.cell u1 nF5
          have oF : ∀ k, (Value.slice ao5 xs.length cap5).ownBlock = some k → ¬ F k := fun k e t => by have := lF.out _ t; have := (O6.out.lt k e).1; omega
          have O7 := C7.owns O6.out oF
          have OF7 : Hid (∀ k, (Value.slice ao5 xs.length cap5).ownBlock = some k → ¬ F7 k) := fun k e t => by
            rcases L7 _ t with s | s
            · exact oF k e s
            · have := (O6.out.lt k e).2; omega
          have O7H := hid_of O7
          have K7 := hid_of (K6H.out.ch C7 LRH.out)
          have L8 : Hid (∀ x, F7 x → W0.heap.size ≤ x) := fun x hx => by
            rcases L7 x hx with t | t
            · exact LRH.out x t
            · exact Nat.le_trans K6H.out.size t
          obtain ⟨N, hN⟩ : ∃ N, xs.length = N := ⟨_, rfl⟩
          have LN : (xs ++ [(⟨ef, et, ec, ek⟩ : Ed)]).length = N + 1 := by simp [hN]
          have EC : Hid (∀ m, Calls Try.prog 11 #[.pointer (some ⟨p, 0, none⟩)] (w7.drewN m) fun v w' => v = .returned (.int .i64 ((N : Int) + 1)) ∧ w7.drewN m = w') := fun m => by
            have := edges_calls (w7.drewN m) 0 p nd _ (N7.kept ((Kept.refl _).drewN m)).at
            rw [LN] at this
            push_cast at this
            exact this
          have CC : Hid (∀ m, Calls Try.prog 17 #[.pointer (some ⟨p, 0, none⟩), .int .i64 (N : Int)] (w7.drewN m) fun v w' => v = .returned (.int .i64 0) ∧ NetF w' F7 p nd xs ∧ Ch F7 (w7.drewN m) w') := fun m => by
            refine cut_calls (w7.drewN m) F7 p nd _ (N7.kept ((Kept.refl _).drewN m)) (by rw [LN]; omega) (N : Int) xs 0 (hid_of ?_)
            unfold cutOf
            rw [if_neg (by rw [LN]; omega)]
            have ee : (xs ++ [(⟨ef, et, ec, ek⟩ : Ed)]).eraseIdx xs.length = xs := by
              rw [List.eraseIdx_append_of_length_le (Nat.le_refl _)]
              simp
            simp [← hN, ee]
          have hW : IntKind.i64.wrap ((N : Int) + 1) = (N : Int) + 1 := by rw [IntKind.wrap_i64]; first | omega | (unfold wrap64; omega)
          have q1 : ((N : Int) == (N : Int)) = true := by simp
          have q2 : ((N : Int) + 1 == (N : Int) + 1) = true := by simp
          rw [hN] at v1 O7H OF7
          have HN := hid_of hN
          have SC : Hid (∀ w8 ao8 cap8, Ch F7 w7 w8 → w8.ownsRow 0 36 4 (.slice ao8 N cap8) N (evals xs) → Calls Try.prog 12 #[.agg #[.int .i64 nd, .slice ao5 N cap5], .agg #[.int .i64 nd, .slice ao8 N cap8]] w8 fun v w' => v = .returned (.bool true) ∧ Kept w8 w') := fun w8 ao8 cap8 C8 O8 =>
            same_calls nd ao5 ao8 N cap5 cap8 xs w8 (ERow.of_owns (C8.owns O7H.out OF7.out)) (ERow.of_owns O8)
          rw [hN]
          have RL := hid_of RRH.out.len
          clear AC u0 u1 r0 r1 r2 r3 O6 N6 K6H C7 L7 N7 LRH lF oF O7 O7H OF7 LN hN RRH
          refine Ord.region [(0, 0), (1, 0), (2, 1), (3, 0), (4, 0), (5, 0), (6, 0), (7, 0), (8, 0), (10, 0), (11, 0), (9, 2), (12, 0), (13, 0), (14, 0), (15, 0), (16, 0), (17, 2), (18, 0), (19, 0), (20, 0), (21, 1), (22, 0), (23, 0), (24, 0), (25, 2), (26, 2), (27, 0), (28, 0)] (fun w' => Ch F7 w7 w') (by kernel_rfl) (by kernel_rfl) (by kernel_rfl) (by kernel_rfl) (fun _ _ d _ _ h => by cases d <;> exact h) ((Ch.refl _ _).drewN _) ?_
          repeat
            refine Ord.step rfl (fun Ko hK => ?_)
            simp only [Ord.body]
            go_simp
            first
              | (refine hK _ _ ?_; clear hK Ko)
              | (refine ⟨_, fun w' hS => (by have c1 := hS.cell v1 nF7; simp only [c1, Result.andThen]; rfl), hK _ _ ?_⟩; clear hK Ko)
              | (refine ⟨_, fun w' hS => (by have c0 := hS.cell v0 nF7; have c1 := hS.cell v1 nF7; simp only [c0, c1, Result.andThen]; rfl), hK _ _ ?_⟩; clear hK Ko)
              | (go_at_call 11; refine (EC.out _).mono ?_; rintro e w' ⟨rfl, rfl⟩; refine ⟨(Ch.refl _ _).drewN _, hK _ _ ?_⟩; clear hK Ko)
              | (go_at_call 17; refine (CC.out _).mono ?_; rintro e w9 ⟨rfl, N9, C9⟩; refine ⟨((Ch.refl _ _).drewN _).trans C9, hK _ _ ?_⟩; clear hK Ko; have C9b := ((Ch.refl F7 w7).drewN _).trans C9; have PC := hid_of (plain_calls w9 0 p nd xs N9.at (by have := RL.out; omega)); rw [HN.out] at PC)
              | (go_at_call 13; refine PC.out.mono ?_; rintro e w10 ⟨ao8, cap8, rfl, O10, K10⟩; refine ⟨C9b.trans (.of_kept K10), hK _ _ ?_⟩; clear hK Ko; have C10 := C9b.trans (.of_kept K10); have SD := hid_of (SC.out w10 ao8 cap8 C10 (O10.mono (Nat.zero_le _))))
              | (go_at_call 12; refine SD.out.mono ?_; rintro e w11 ⟨rfl, K11⟩; refine ⟨C10.trans (.of_kept K11), hK _ _ ?_⟩; clear hK Ko)
          refine Ord.done ?_
          have KZ := hid_of (KG.trans (K7.out.ch (C10.trans (.of_kept K11)) L8.out))
          clear SC PC SD C9 C9b C10 K10 K11 EC CC N9 O10 K7 L8 HN
          go_wp2_with fail
          go_ret
          exact ⟨rfl, KZ.out⟩
        · have hb7 : ((addOf nd xs ⟨ef, et, ec, ek⟩).2.2 != 0) = true := by simpa using hbad
          obtain ⟨zs, i7, c7, hA⟩ : ∃ zs i7 c7, Hid (addOf nd xs ⟨ef, et, ec, ek⟩ = (zs, i7, c7)) := ⟨_, _, _, hid_of rfl⟩
          have U := (RRH.out.add ⟨ef, et, ec, ek⟩).2 hbad
          rw [hA.out] at hb7 U
          simp only at hb7 U
          subst U
          have AC := hid_of (addF_calls _ F p nd zs ⟨ef, et, ec, ek⟩ N6.out zs i7 c7 hA)
          clear hbad
          go_wp2_with (go_at_call 15; refine AC.out.mono ?_; rintro v w7 ⟨rfl, F7, N7, C7, L7⟩)
          have nF5 : ¬ F w5.heap.size := fun t => by have := lF.out _ t; omega
          have v0 := C7.cell u0 nF5
          have v1 := C7.cell u1 nF5
          have E7 := hid_of (ERow.of_owns (C7.owns O6.out (fun k e t => by have := lF.out _ t; have := (O6.out.lt k e).1; omega)))
          have K7 := hid_of (K6H.out.ch C7 LRH.out)
          have PC := hid_of (fun m => plain_calls (w7.drewN m) 0 p nd zs (N7.kept ((Kept.refl _).drewN m)).at (by have := RRH.out.len; omega))
          clear AC u0 u1 r0 r1 r2 r3 O6 N6 K6H C7 L7 N7 LRH lF
          refine Ord.region [(0, 1), (1, 0), (2, 0), (3, 0), (4, 2), (5, 2), (6, 0)] (fun w' => Kept w7 w') (by kernel_rfl) (by kernel_rfl) (by kernel_rfl) (by kernel_rfl) (fun _ _ d _ _ h => by cases d <;> exact h) ((Kept.refl _).drewN _) ?_
          repeat
            refine Ord.step rfl (fun Ko hK => ?_)
            simp only [Ord.body]
            go_simp
            first
              | (refine hK _ _ ?_; clear hK Ko)
              | (refine ⟨_, fun w' hS => (by have c0 := hS.cell v0; have c1 := hS.cell v1; simp only [c0, c1, Result.andThen]; rfl), hK _ _ ?_⟩; clear hK Ko)
              | (go_at_call 13; refine (PC.out _).mono ?_; rintro e w8 ⟨ao8, cap8, rfl, O8, K8⟩; refine ⟨((Kept.refl _).drewN _).trans K8, hK _ _ ?_⟩; clear hK Ko; have K9 := ((Kept.refl w7).drewN _).trans K8; have SC := hid_of (same_calls nd ao5 ao8 zs.length cap5 cap8 zs w8 (E7.out.kept K9) (ERow.of_owns O8)))
              | (go_at_call 12; refine SC.out.mono ?_; rintro e w10 ⟨rfl, K10⟩; refine ⟨K9.trans K10, hK _ _ ?_⟩; clear hK Ko)
          refine Ord.done ?_
          have KZ := hid_of (KG.trans (K7.out.trans (K9.trans K10)))
          clear SC PC K9 K10 K8 O8 E7 K7
          go_wp2_with fail
          go_ret
          exact ⟨rfl, KZ.out⟩
  · have q : (c != 0) = true := by simpa using hc
    obtain rfl := hp1 hc
    clear hp2 hp1
    go_wp2_with fail
    go_ret
    exact ⟨rfl, KG.trans KB.out⟩
end Go.Proofs.Ythefeijgpgcecaa

/- The document's without: the graph without the edges at an edge's ends and those up to it. -/
import Derived.Test.YtpdppjngbbkbbaaDoorVmY
import Derived.Test.YtpdppjngbbkbbaaDoorVmT
import Derived.Lib.OwnKind
namespace Go.Proofs.YtpdppjngbbkbbaaDoor
open Go.RowKit

/-- The edges behind edge i, of the first k, that don't touch it. -/
def awTo (es : List Ed) (i k : Nat) : List Ed := ((es.take k).drop (i + 1)).filter (awayE (edAt es i))
theorem awTo_start (es : List Ed) (i : Nat) : awTo es i (i + 1) = [] := by
  unfold awTo
  rw [List.drop_eq_nil_of_le (by rw [List.length_take]; omega)]
  rfl
theorem awTo_succ {es : List Ed} {i k : Nat} (hi : i + 1 ≤ k) (hk : k < es.length) : awTo es i (k + 1) = awTo es i k ++ (bif awayE (edAt es i) (edAt es k) then [edAt es k] else []) := by
  have e : es[k] = edAt es k := by simp [edAt, List.getD, hk]
  unfold awTo
  rw [List.take_succ_eq_append_getElem hk, List.drop_append_of_le_length (by rw [List.length_take]; omega), List.filter_append, e]
  cases h : awayE (edAt es i) (edAt es k) <;> simp [h]
theorem awTo_end (es : List Ed) (i : Nat) : awTo es i es.length = (es.drop (i + 1)).filter (awayE (edAt es i)) := by
  unfold awTo
  rw [List.take_length]
theorem awTo_len (es : List Ed) (i k : Nat) : (awTo es i k).length ≤ k := by
  unfold awTo
  refine Nat.le_trans (List.length_filter_le _ _) ?_
  rw [List.length_drop, List.length_take]
  omega

theorem rng_snoc {ws : List Int} {z m : Int} (h : ∀ j, j < ws.length → 0 ≤ zAt ws j ∧ zAt ws j < m) (hz : 0 ≤ z ∧ z < m) : ∀ j, j < (ws ++ [z]).length → 0 ≤ zAt (ws ++ [z]) j ∧ zAt (ws ++ [z]) j < m := by
  intro j hj
  rw [List.length_append, List.length_singleton] at hj
  by_cases e : j < ws.length
  · have := h j e
    simpa [zAt, List.getD, List.getElem?_append_left e] using this
  · obtain rfl : j = ws.length := by omega
    simpa [zAt, List.getD] using hz

theorem kinds_apart {w : World} {B B' n n' s : Nat} {v v' : Value} {xs xs' : List Value} (h : w.ownsRow B 3 1 v n xs) (h' : w.ownsRow B' 86 s v' n' xs') : ∀ k, v.ownBlock = some k → ¬ v'.ownBlock = some k := by
  intro k e e'
  obtain ⟨c, z, a⟩ := Lib.ownsRow_kind h k e
  obtain ⟨c', z', a'⟩ := Lib.ownsRow_kind h' k e'
  rw [a] at a'
  simp at a'

theorem two_edge {w w1 : World} {nb len cap cnt : Nat} {ao : Option Addr} {L : List Ed} {nodes : Int} {qv v' : Value} {ws : List Int} {x : Ed} (H : NetAt w nb nb nodes L) (R : w.ownsRow (nb + 1) 3 1 qv cnt (jvals ws)) (hl : L.length = len) (c1 : w.cell? ⟨nb, 1, none⟩ = some (.slice ao len cap)) (O : w.ownsRow nb 86 4 (.slice ao len cap) len (evals L)) (hp : some nb ≠ (Value.slice ao len cap).ownBlock)
    (own : w1.ownsRow nb 86 4 v' (len + 1) (evals L ++ ecells x)) (grow : (w.alloc (Obj.cells #[.int .i64 x.f, .int .i64 x.t, .int .i64 x.c, .int .i64 x.k] 86)).grownBy w1 (Value.slice ao len cap).ownBlock) (hat : v'.ownBlock = (Value.slice ao len cap).ownBlock ∨ v'.ownBlock = some (w.heap.size + 1)) :
    ∃ ao5 cap5, v' = .slice ao5 (len + 1) cap5 ∧ w1.cell? ⟨nb, 1, none⟩ = some (.slice ao len cap) ∧ w1.frozen? ⟨nb, 1, none⟩ = false ∧ NetAt (w1.setCell ⟨nb, 1, none⟩ v') nb nb nodes (L ++ [x]) ∧ (w1.setCell ⟨nb, 1, none⟩ v').ownsRow (nb + 1) 3 1 qv cnt (jvals ws) ∧ Ch (fun k => nb ≤ k) w (w1.setCell ⟨nb, 1, none⟩ v') := by
  have KA : Kept w (w.alloc (Obj.cells #[.int .i64 x.f, .int .i64 x.t, .int .i64 x.c, .int .i64 x.k] 86)) := (Kept.refl w).alloc _
  obtain ⟨ao5, cap5, rfl, q1, q2, q3, q4⟩ := net_grow (wr := w) (o := Obj.cells #[.int .i64 x.f, .int .i64 x.t, .int .i64 x.c, .int .i64 x.k] 86) (x := x) hl.symm H.c0 c1 hp H.z0 H.z1 H.ge H.zz own grow hat
  have C1 : Ch (fun k => (Value.slice ao len cap).ownBlock = some k) w w1 := (Ch.of_kept KA).trans (Ch.of_grown grow (fun k e => e))
  have R1 := C1.owns R (kinds_apart R O)
  refine ⟨ao5, cap5, rfl, q1, q2, q3, ownsRow_setCell_below R1 (a := ⟨nb, 1, none⟩) (by simp) _, Ch.setCell (F := fun k => nb ≤ k) (C1.mono (fun k e => (O.lt k e).1)) (p := ⟨nb, 1, none⟩) (by simp) _⟩

theorem two_int {w w1 : World} {nb cnt : Nat} {L : List Ed} {nodes z : Int} {qv : Value} {ws : List Int} (H : NetAt w nb nb nodes L) (R : w.ownsRow (nb + 1) 3 1 qv cnt (jvals ws))
    (grow : (w.alloc (Obj.cells #[.int .i64 z] 3)).grownBy w1 qv.ownBlock) : NetAt w1 nb nb nodes L ∧ Ch (fun k => nb ≤ k) w w1 := by
  have KA : Kept w (w.alloc (Obj.cells #[.int .i64 z] 3)) := (Kept.refl w).alloc _
  have C1 : Ch (fun k => qv.ownBlock = some k) w w1 := (Ch.of_kept KA).trans (Ch.of_grown grow (fun k e => e))
  have far : ¬ qv.ownBlock = some nb := fun t => by have := (R.lt nb t).1; omega
  have lb : nb < w.heap.size := lt_cell H.c0
  obtain ⟨ao, cap, c1, O, hp⟩ := H.c1
  refine ⟨⟨C1.cell H.c0 far, ⟨ao, cap, C1.cell c1 far, C1.owns O (fun k e t => kinds_apart R O k t e), hp⟩, (C1.frozen lb far).trans H.z0, (C1.frozen lb far).trans H.z1, H.ge, fun q => (C1.frozen lb far).trans (H.zz q)⟩, C1.mono (fun k e => by have := (R.lt k e).1; omega)⟩

set_option maxRecDepth 100000 in
set_option linter.unusedSimpArgs false in
set_option maxHeartbeats 4000000 in
theorem withoutR_calls (nodes : Int) (ao : Option Addr) (n cap : Nat) (es : List Ed) (i : Nat) (hin : i < n) (hn : n ≤ 4096) (w : World) (h : ERow w ao n cap es) (R : List Ed) (hR : Hid ((es.drop (i + 1)).filter (awayE (edAt es i)) = R)) :
    Calls Tryd.prog 91 #[.agg #[.int .i64 nodes, .slice ao n cap], .int .i64 (i : Int)] w fun r w' => ∃ ao' m cap' so sc ws, r = .returned (.tuple #[.agg #[.int .i64 nodes, .slice ao' m cap'], .slice so m sc]) ∧ ERow w' ao' m cap' R ∧ JRow w' so m sc ws ∧ (∀ j, j < m → 0 ≤ zAt ws j ∧ zAt ws j < (n : Int)) ∧ Kept w w' := by
  obtain ⟨i0, hi, hz0, hz1, hz2⟩ := infoE
  obtain ⟨j0, ji, jz0, jz1, jz2⟩ := infoJ
  have hr1 := h.room
  have hm1 := h.most
  unfold maxLen at hm1
  have hlen := hid_of h.len
  have KW : Kept w ((w.alloc (Obj.cells #[.int .i64 nodes, .slice ao n cap] 24)).alloc (Obj.cells #[.int .i64 0, .slice none 0 0] 24)) := ((Kept.refl w).alloc _).alloc _
  have w0 : ((w.alloc (Obj.cells #[.int .i64 nodes, .slice ao n cap] 24)).alloc (Obj.cells #[.int .i64 0, .slice none 0 0] 24)).cell? ⟨w.heap.size, 0, none⟩ = some (.int .i64 nodes) := by simp [go_sem]
  have w1 : ((w.alloc (Obj.cells #[.int .i64 nodes, .slice ao n cap] 24)).alloc (Obj.cells #[.int .i64 0, .slice none 0 0] 24)).cell? ⟨w.heap.size, 1, none⟩ = some (.slice ao n cap) := by simp [go_sem]
  have f0 : ((w.alloc (Obj.cells #[.int .i64 nodes, .slice ao n cap] 24)).alloc (Obj.cells #[.int .i64 0, .slice none 0 0] 24)).cell? ⟨w.heap.size + 1, 0, none⟩ = some (.int .i64 0) := by simp [go_sem]
  have f1 : ((w.alloc (Obj.cells #[.int .i64 nodes, .slice ao n cap] 24)).alloc (Obj.cells #[.int .i64 0, .slice none 0 0] 24)).cell? ⟨w.heap.size + 1, 1, none⟩ = some (.slice none 0 0) := by simp [go_sem]
  have ff : ∀ o, ((w.alloc (Obj.cells #[.int .i64 nodes, .slice ao n cap] 24)).alloc (Obj.cells #[.int .i64 0, .slice none 0 0] 24)).frozen? ⟨w.heap.size + 1, o, none⟩ = false := fun o => by simp [go_sem]
  have HE := hid_of h
  clear h
  go_enter Tryd.func91, Tryd.ntmps91
  go_upto_region 1 with fail
  generalize (w.alloc (Obj.cells #[.int .i64 nodes, .slice ao n cap] 24)).alloc (Obj.cells #[.int .i64 0, .slice none 0 0] 24) = W1 at KW w0 w1 f0 f1 ff ⊢
  have KWH := hid_of KW
  have W0H := hid_of w0
  have W1H := hid_of w1
  have F0 := hid_of f0
  have F1 := hid_of f1
  have FF := hid_of ff
  have FIN : Hid (∀ (wa : World) (a c : Value), Kept W1 wa → wa.cell? ⟨w.heap.size + 1, 0, none⟩ = some (.int .i64 0) ∧ wa.cell? ⟨w.heap.size + 1, 1, none⟩ = some (.slice none 0 0) ∧ wa.frozen? ⟨w.heap.size + 1, 0, none⟩ = false ∧ wa.frozen? ⟨w.heap.size + 1, 1, none⟩ = false ∧
    ((wa.setCell ⟨w.heap.size + 1, 0, none⟩ a).setCell ⟨w.heap.size + 1, 1, none⟩ c).cell? ⟨w.heap.size + 1, 0, none⟩ = some a ∧ ((wa.setCell ⟨w.heap.size + 1, 0, none⟩ a).setCell ⟨w.heap.size + 1, 1, none⟩ c).cell? ⟨w.heap.size + 1, 1, none⟩ = some c ∧ Kept w ((wa.setCell ⟨w.heap.size + 1, 0, none⟩ a).setCell ⟨w.heap.size + 1, 1, none⟩ c)) := fun wa a c K => by
    have h0 := K.cell F0.out
    have h1 := K.cell F1.out
    obtain ⟨-, -, t3, t4⟩ := box2w h0 h1 a c
    exact ⟨h0, h1, (Below.frozen (p := ⟨w.heap.size + 1, 0, none⟩) K (lt_cell F0.out)).trans (FF.out 0), (Below.frozen (p := ⟨w.heap.size + 1, 1, none⟩) K (lt_cell F1.out)).trans (FF.out 1), t3, t4, ((KWH.out.trans K).setCell (p := ⟨w.heap.size + 1, 0, none⟩) (by simp) a).setCell (p := ⟨w.heap.size + 1, 1, none⟩) (by simp) c⟩
  have LB := hid_of (lt_cell f1)
  clear KW f0 f1 ff
  have KM : Kept W1 (W1.alloc (Obj.cells #[.int .i64 nodes, .slice none 0 0] 24)) := (Kept.refl W1).alloc _
  have N0 : NetAt (W1.alloc (Obj.cells #[.int .i64 nodes, .slice none 0 0] 24)) W1.heap.size W1.heap.size nodes [] := ⟨by simp [go_sem], ⟨none, 0, by simp [go_sem], World.ownsRow_nil _ _ _ _, by simp [Value.ownBlock]⟩, by simp [go_sem], by simp [go_sem], Nat.le_refl _, fun q => by simp [go_sem]⟩
  have KMH := hid_of KM
  have NH := hid_of N0
  go_upto_region 2 with fail
  obtain ⟨nb, hnb⟩ : ∃ nb, W1.heap.size = nb := ⟨_, rfl⟩
  rw [hnb] at NH
  have HNB := hid_of hnb
  simp only [hnb]
  clear hnb
  generalize W1.alloc (Obj.cells #[.int .i64 nodes, .slice none 0 0] 24) = W2 at KMH NH ⊢
  clear KM N0 w0 w1
  have w1 := KMH.out.cell W1H.out
  obtain ⟨b, off, rfl, hc⟩ := (HE.out.kept (KWH.out.trans KMH.out)).cell (by omega)
  obtain ⟨d1, d2, -, -⟩ := hc i hin
  have R0 : Hid (W2.ownsRow (nb + 1) 3 1 (.slice none 0 0) ([] : List Int).length (jvals [])) := World.ownsRow_nil _ _ _ _
  have A0 := hid_of (awTo_start es i)
  have AW := hid_of (fun k (h1 : i + 1 ≤ k) (h2 : k < es.length) => awTo_succ (es := es) h1 h2)
  clear hc
  generalize hxa : edAt es i = xa at d1 d2 AW
  obtain ⟨A, B, ac, ak⟩ := xa
  simp only at d1 d2
  go_upto_region 5 with fail
  clear d1 d2
  go_wp2_with fail
  go_loopw [7, 10] (fun qv iv wr => ∃ (k : Nat) (ws : List Int), i + 1 ≤ k ∧ k ≤ n ∧ iv = .int .i64 k ∧ Kept W1 wr ∧ NetAt wr nb nb nodes (awTo es i k) ∧ wr.ownsRow (nb + 1) 3 1 qv ws.length (jvals ws) ∧ ws.length = (awTo es i k).length ∧ (∀ j, j < ws.length → 0 ≤ zAt ws j ∧ zAt ws j < (n : Int))) (fun _ iv _ => n - (intOf iv).toNat)
  case atStart => exact ⟨i + 1, [], by omega, by omega, by go_num, KMH.out, by rw [A0.out]; exact NH.out, R0.out, by rw [A0.out]; rfl, fun j hj => by simp at hj⟩
  case round =>
    obtain ⟨k, ws, hik, hk, rfl, K, NR, OR, hwl, hws⟩ := hrel
    have NRH := hid_of NR
    have KH := hid_of K
    have w1 := K.cell W1H.out
    obtain ⟨cnt, hcnt⟩ : ∃ c, ws.length = c := ⟨_, rfl⟩
    rw [hcnt] at OR
    have HCN := hid_of hcnt
    obtain ⟨so, sc, rfl⟩ := owns_slice1j OR
    have ORH := hid_of OR
    have HWS := hid_of hws
    have HWL := hid_of (hwl.symm.trans hcnt)
    have RL := hid_of (awTo_len es i k)
    clear NR OR hws hwl hcnt R0 A0 NH
    by_cases hgo : (k : Int) < (n : Int)
    · obtain ⟨d1, d2, d3, d4⟩ : wr.cell? ⟨b, off + k * 4, none⟩ = some (.int .i64 (edAt es k).f) ∧ wr.cell? ⟨b, off + k * 4 + 1, none⟩ = some (.int .i64 (edAt es k).t) ∧ wr.cell? ⟨b, off + k * 4 + 2, none⟩ = some (.int .i64 (edAt es k).c) ∧ wr.cell? ⟨b, off + k * 4 + 3, none⟩ = some (.int .i64 (edAt es k).k) := by
        obtain ⟨b', off', e', hc⟩ := (HE.out.kept (KWH.out.trans K)).cell (by omega)
        simp only [Option.some.injEq, Addr.mk.injEq] at e'
        obtain ⟨rfl, rfl, -⟩ := e'
        exact hc k (by omega)
      have SU := hid_of (AW.out k hik (by rw [← hlen.out]; omega))
      generalize awTo es i k = L at NRH HWL RL SU
      generalize edAt es k = x at d1 d2 d3 d4 SU
      obtain ⟨ef, et, ec, ek⟩ := x
      simp only at d1 d2 d3 d4
      clear K
      go_upto_region 9 with fail
      generalize hW : wr.alloc (Obj.cells #[.int .i64 ef, .int .i64 et, .int .i64 ec, .int .i64 ek] 86) = W3
      obtain ⟨EK, a0, a1, a2, a3, -⟩ := edge_box hW
      have K3 := hid_of (KH.out.trans EK)
      have N3 := hid_of (NRH.out.keep EK)
      have O3 := hid_of (ownsK ORH.out EK)
      clear d1 d2 EK hW w1 KH NRH ORH
      by_cases c1 : ef = A
      · have z : awayE ⟨A, B, ac, ak⟩ ⟨ef, et, ec, ek⟩ = false := by simp [awayE, c1]
        have P : Hid (awTo es i (k + 1) = L) := by show _ = _; rw [SU.out, z]; simp
        have NF : Hid (NetAt W3 nb nb nodes (awTo es i (k + 1))) := by show NetAt _ _ _ _ _; rw [P.out]; exact N3.out
        have LF : Hid (ws.length = (awTo es i (k + 1)).length) := by show _ = _; rw [P.out, HWL.out]; exact HCN.out
        have q1 : (ef != A) = false := by simp [c1]
        clear z P c1 SU N3
        go_wp2_with fail
        go_roundw
        case rel => exact ⟨k + 1, ws, by omega, by omega, by go_num, K3.out, NF.out, by rw [HCN.out]; exact O3.out, LF.out, HWS.out⟩
        case measure => simp [intOf]; omega
      have q1 : (ef != A) = true := by simpa using c1
      by_cases c2 : et = A
      · have z : awayE ⟨A, B, ac, ak⟩ ⟨ef, et, ec, ek⟩ = false := by simp [awayE, c2]
        have P : Hid (awTo es i (k + 1) = L) := by show _ = _; rw [SU.out, z]; simp
        have NF : Hid (NetAt W3 nb nb nodes (awTo es i (k + 1))) := by show NetAt _ _ _ _ _; rw [P.out]; exact N3.out
        have LF : Hid (ws.length = (awTo es i (k + 1)).length) := by show _ = _; rw [P.out, HWL.out]; exact HCN.out
        have q2 : (et != A) = false := by simp [c2]
        clear z P c2 SU N3
        go_wp2_with fail
        go_roundw
        case rel => exact ⟨k + 1, ws, by omega, by omega, by go_num, K3.out, NF.out, by rw [HCN.out]; exact O3.out, LF.out, HWS.out⟩
        case measure => simp [intOf]; omega
      have q2 : (et != A) = true := by simpa using c2
      by_cases c3 : ef = B
      · have z : awayE ⟨A, B, ac, ak⟩ ⟨ef, et, ec, ek⟩ = false := by simp [awayE, c3]
        have P : Hid (awTo es i (k + 1) = L) := by show _ = _; rw [SU.out, z]; simp
        have NF : Hid (NetAt W3 nb nb nodes (awTo es i (k + 1))) := by show NetAt _ _ _ _ _; rw [P.out]; exact N3.out
        have LF : Hid (ws.length = (awTo es i (k + 1)).length) := by show _ = _; rw [P.out, HWL.out]; exact HCN.out
        have q3 : (ef != B) = false := by simp [c3]
        clear z P c3 SU N3
        go_wp2_with fail
        go_roundw
        case rel => exact ⟨k + 1, ws, by omega, by omega, by go_num, K3.out, NF.out, by rw [HCN.out]; exact O3.out, LF.out, HWS.out⟩
        case measure => simp [intOf]; omega
      have q3 : (ef != B) = true := by simpa using c3
      by_cases c4 : et = B
      · have z : awayE ⟨A, B, ac, ak⟩ ⟨ef, et, ec, ek⟩ = false := by simp [awayE, c4]
        have P : Hid (awTo es i (k + 1) = L) := by show _ = _; rw [SU.out, z]; simp
        have NF : Hid (NetAt W3 nb nb nodes (awTo es i (k + 1))) := by show NetAt _ _ _ _ _; rw [P.out]; exact N3.out
        have LF : Hid (ws.length = (awTo es i (k + 1)).length) := by show _ = _; rw [P.out, HWL.out]; exact HCN.out
        have q4 : (et != B) = false := by simp [c4]
        clear z P c4 SU N3
        go_wp2_with fail
        go_roundw
        case rel => exact ⟨k + 1, ws, by omega, by omega, by go_num, K3.out, NF.out, by rw [HCN.out]; exact O3.out, LF.out, HWS.out⟩
        case measure => simp [intOf]; omega
      have q4 : (et != B) = true := by simpa using c4
      have z : awayE ⟨A, B, ac, ak⟩ ⟨ef, et, ec, ek⟩ = true := by simp [awayE, c1, c2, c3, c4]
      have P : Hid (awTo es i (k + 1) = L ++ [⟨ef, et, ec, ek⟩]) := by show _ = _; rw [SU.out, z]; simp
      obtain ⟨ao1, cap1, x1, O, hp⟩ := N3.out.c1
      rw [HWL.out] at x1 O hp
      have rl := RL.out
      rw [HWL.out] at rl
      have bB : nb ≤ W3.heap.size := Nat.le_of_lt (lt_cell x1)
      have NW := hid_of (cell_new4 W3 86 ⟨ef, et, ec, ek⟩)
      have HM := hid_of (World.ownsRow.alloc O (Obj.cells #[.int .i64 ef, .int .i64 et, .int .i64 ec, .int .i64 ek] 86))
      have HO := hid_of O
      have HP := hid_of hp
      have X1 := hid_of x1
      clear O hp SU z c1 c2 c3 c4
      go_upto_region 10 with fail
      clear q1 q2 q3 q4
      go_wp2_with (at_builtin; refine wpList_append_own_at _ rfl _ _ 22 rfl nb 86 i0 _ 4 32 Tryd.underlying22 hi hz0 hz1 hz2 rfl (by decide) _ _ _ rfl HM.out ⟨W3.heap.size, 0, none⟩ 1 1 (ecells ⟨ef, et, ec, ek⟩) rfl rfl NW.out (ecells_one _) (by unfold maxLen; omega) (by omega) (by simp; omega) ?_)
      intro v' w6 own grow _ hat
      obtain ⟨ao5, cap5, rfl, q1, q2, NF, RF, CF⟩ := two_edge N3.out O3.out HWL.out X1.out HO.out HP.out own grow (by
        rcases hat with u | u
        · exact .inl u
        · exact .inr (by rw [u]))
      have N7 := hid_of NF
      have R7 := hid_of RF
      have C7 := hid_of CF
      clear own grow hat NF RF CF NW HM HO HP X1 x1 N3 O3 a0 a1 a2 a3
      go_upto_region 11 with fail
      generalize w6.setCell ⟨nb, 1, none⟩ (.slice ao5 (cnt + 1) cap5) = W7 at N7 R7 C7 ⊢
      have bB7 : nb + 1 ≤ W7.heap.size := lt_cell N7.out.c0
      have NW := hid_of (cell_newj W7 3 (.int .i64 (k : Int)))
      have HM := hid_of (World.ownsRow.alloc R7.out (Obj.cells #[.int .i64 (k : Int)] 3))
      clear q1 q2
      go_wp2_with (at_builtin; refine wpList_append_own_at _ rfl _ _ 25 rfl (nb + 1) 3 j0 (.int .i64 0) 1 8 Tryd.underlying25 ji jz0 jz1 jz2 rfl (by decide) _ _ _ rfl HM.out ⟨W7.heap.size, 0, none⟩ 1 1 [.int .i64 (k : Int)] rfl rfl NW.out (by intro u hu; simp at hu; subst hu; rfl) (by unfold maxLen; omega) (by omega) (by simp; omega) ?_)
      intro u' w8 own grow _ _
      obtain ⟨N9, C9⟩ := two_int N7.out R7.out grow
      have NF : Hid (NetAt w8 nb nb nodes (awTo es i (k + 1))) := by show NetAt _ _ _ _ _; rw [P.out]; exact N9
      have LF : Hid ((ws ++ [(k : Int)]).length = (awTo es i (k + 1)).length) := by show _ = _; rw [P.out, List.length_append, List.length_append, HWL.out, HCN.out]; rfl
      have OF : Hid (w8.ownsRow (nb + 1) 3 1 u' (ws ++ [(k : Int)]).length (jvals (ws ++ [(k : Int)]))) := by
        show w8.ownsRow (nb + 1) 3 1 u' (ws ++ [(k : Int)]).length (jvals (ws ++ [(k : Int)]))
        rw [← jvals_snoc, List.length_append, HCN.out]
        exact own
      have WF := hid_of (rng_snoc HWS.out (z := (k : Int)) ⟨by omega, hgo⟩)
      have KF := hid_of (K3.out.ch (C7.out.trans C9) (fun q hq => by have := HNB.out; omega))
      clear own grow N9 C9 NW HM N7 R7 C7 P K3
      go_wp2_with fail
      go_roundw
      case rel => exact ⟨k + 1, ws ++ [(k : Int)], by omega, by omega, by go_num, KF.out, NF.out, OF.out, LF.out, WF.out⟩
      case measure => simp [intOf]; omega
    · obtain rfl : k = n := by omega
      have ER : Hid (awTo es i k = R) := by
        show _ = _
        rw [hlen.out]
        exact (awTo_end es i).trans hR.out
      obtain ⟨fo, fc, m1, m2, m3⟩ := NRH.out.c1
      have m0 := NRH.out.c0
      rw [HWL.out] at m1 m2
      have hlt : w.heap.size + 1 < nb := by
        have g1 := LB.out
        have g2 := HNB.out
        rw [g2] at g1
        exact g1
      obtain ⟨s0, s1, s2, s3, t3, t4, KF⟩ := FIN.out wr (.int .i64 nodes) (.slice fo cnt fc) KH.out
      have O2 := ownsRow_setCell_below (ownsRow_setCell_below m2 (a := ⟨w.heap.size + 1, 0, none⟩) hlt (.int .i64 nodes)) (a := ⟨w.heap.size + 1, 1, none⟩) hlt (.slice fo cnt fc)
      have O4 := ownsRow_setCell_below (ownsRow_setCell_below ORH.out (a := ⟨w.heap.size + 1, 0, none⟩) (Nat.lt_succ_of_lt hlt) (.int .i64 nodes)) (a := ⟨w.heap.size + 1, 1, none⟩) (Nat.lt_succ_of_lt hlt) (.slice fo cnt fc)
      have EF := hid_of (ERow.of_owns (by rw [HWL.out]; exact O2) : ERow _ fo (awTo es i k).length fc (awTo es i k))
      have JF := hid_of (JRow.of_owns O4)
      have KFH := hid_of KF
      clear KF O2 O4 m2 m3 hlt
      go_wp2
      refine bodyPost_ret (v := .tuple #[.agg #[.int .i64 nodes, .slice fo cnt fc], .slice so cnt sc]) (by simp [results, Tryd.results91, go_sem, t3, t4]) rfl ?_
      have EF2 := EF.out
      rw [HWL.out, ER.out] at EF2
      exact ⟨fo, cnt, fc, so, sc, rfl, EF2, ws, JF.out, fun j hj => HWS.out j (by rw [HCN.out]; exact hj), KFH.out⟩
end Go.Proofs.YtpdppjngbbkbbaaDoor

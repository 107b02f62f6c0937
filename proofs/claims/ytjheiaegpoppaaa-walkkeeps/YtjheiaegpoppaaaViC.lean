/- Visit: the walk. -/
import Derived.Test.YtjheiaegpoppaaaViB
import Derived.Test.YtjheiaegpoppaaaWkE
import Derived.Test.YtjheiaegpoppaaaOrd
import Derived.WalkMore
import Derived.Deep.LoopGhost
namespace Go.Proofs.Ytjheiaegpoppaaa
open Go.RowKit

/-- Where the edges of each node lead, in their order. -/
def outs (es : List Ed) (v : Nat) : List Nat := (nxt es es.length v).map Int.toNat
/-- Nothing has been come to. -/
def tm0 : Tm := ⟨fun _ => -1, fun _ => -1, 0⟩
/-- The times of a visit of all nodes. -/
def times (es : List Ed) (n : Nat) : Tm := vis (outs es) n tm0 (List.range n)

set_option maxRecDepth 100000 in
set_option maxHeartbeats 4000000 in
theorem visitBad_calls (nodes : Int) (ao : Option Addr) (m cap : Nat) (es : List Ed) (w : World) (h : ERow w ao m cap es) (c a : Int) (hf : Hid (faultOf nodes es = (c, a))) (hb : c ≠ 0) :
    Calls Try.prog 11 #[.agg #[.int .i64 nodes, .slice ao m cap]] w fun r w' => r = .returned (.tuple #[.slice none 0 0, .slice none 0 0, .int .i64 c]) ∧ Kept w w' := by
  have hfd : ∀ w : World, (Instr.field 50 (.agg #[.int .i64 c, .int .i64 a]) 0).run Try.prog w = .ok (.int .i64 c) w := fun _ => rfl
  have KG : Kept w ((w.alloc (Obj.cells #[.int .i64 nodes, .slice ao m cap] 24)).alloc (Obj.cells #[.slice none 0 0] 26)) := ((Kept.refl w).alloc _).alloc _
  have g0 : ((w.alloc (Obj.cells #[.int .i64 nodes, .slice ao m cap] 24)).alloc (Obj.cells #[.slice none 0 0] 26)).cell? ⟨w.heap.size, 0, none⟩ = some (.int .i64 nodes) := by simp [go_sem]
  have g1 : ((w.alloc (Obj.cells #[.int .i64 nodes, .slice ao m cap] 24)).alloc (Obj.cells #[.slice none 0 0] 26)).cell? ⟨w.heap.size, 1, none⟩ = some (.slice ao m cap) := by simp [go_sem]
  have f0 : ((w.alloc (Obj.cells #[.int .i64 nodes, .slice ao m cap] 24)).alloc (Obj.cells #[.slice none 0 0] 26)).cell? ⟨w.heap.size + 1, 0, none⟩ = some (.slice none 0 0) := by simp [go_sem]
  have f1 : ((w.alloc (Obj.cells #[.int .i64 nodes, .slice ao m cap] 24)).alloc (Obj.cells #[.slice none 0 0] 26)).frozen? ⟨w.heap.size + 1, 0, none⟩ = false := by simp [go_sem]
  have HE := hid_of (h.kept KG)
  have hq : (c != 0) = true := by simpa using hb
  clear h hb
  go_enter Try.func11, Try.ntmps11
  go_wp2_with fail
  generalize hW0 : (w.alloc (Obj.cells #[.int .i64 nodes, .slice ao m cap] 24)).alloc (Obj.cells #[.slice none 0 0] 26) = W0 at KG g0 g1 f0 f1 HE ⊢
  clear hW0
  refine (check_calls nodes ao m cap es W0 HE.out c a hf).mono ?_
  rintro v wa ⟨rfl, K1⟩
  replace f1 := (Below.frozen (p := ⟨w.heap.size + 1, 0, none⟩) K1 (lt_cell f0)).trans f1
  replace f0 := K1.cell f0
  have KA : Hid (Kept w (wa.setCell ⟨w.heap.size + 1, 0, none⟩ (.slice none 0 0))) := (KG.trans K1).setCell (p := ⟨w.heap.size + 1, 0, none⟩) (by simp only; omega) _
  have FC := World.cell?_setCell_same wa ⟨w.heap.size + 1, 0, none⟩ (.slice none 0 0) f0
  clear K1 KG HE g1 g0
  go_wp2_with fail
  exact bodyPost_ret (v := .tuple #[.slice none 0 0, .slice none 0 0, .int .i64 c]) (by simp [results, Try.results11, go_sem, FC]) rfl ⟨rfl, KA.out⟩

theorem outs_lt {es : List Ed} {n : Nat} (hrg : ∀ e ∈ es, 0 ≤ e.f ∧ e.f < (n : Int) ∧ 0 ≤ e.t ∧ e.t < (n : Int)) : ∀ v, v < n → ∀ t ∈ outs es v, t < n := fun v _ t ht => by
  unfold outs at ht
  simp only [List.mem_map] at ht
  obtain ⟨z, hz, rfl⟩ := ht
  obtain ⟨e, he, -, rfl⟩ := nxt_mem hz
  have := hrg e he
  omega

theorem outs_qz {es : List Ed} {n : Nat} (hrg : ∀ e ∈ es, 0 ≤ e.f ∧ e.f < (n : Int) ∧ 0 ≤ e.t ∧ e.t < (n : Int)) (v : Nat) : nxt es es.length v = qz (outs es v) := by
  unfold outs qz
  rw [List.map_map]
  have : ∀ z ∈ nxt es es.length v, (((fun (u : Nat) => (u : Int)) ∘ Int.toNat) z) = z := fun z hz => by
    obtain ⟨e, he, -, rfl⟩ := nxt_mem hz
    have := hrg e he
    simp only [Function.comp]
    omega
  rw [List.map_congr_left this]
  simp

/-- The rows of what is left, at the beginning. -/
theorem NextAt.rems {w W : World} {B q n : Nat} {es : List Ed} {F : Nat → Prop} (h : NextAt w B q n (nxt es es.length)) (hrg : ∀ e ∈ es, 0 ≤ e.f ∧ e.f < (n : Int) ∧ 0 ≤ e.t ∧ e.t < (n : Int)) (K : Kept w W) (hF : ∀ k, F k → k < B ∨ w.heap.size ≤ k ∨ k = q) :
    ∃ sv : Nat → Value, W.rowIs q 26 n sv ∧ ∀ v, v < n → RemAt W F (sv v) (outs es v) := by
  obtain ⟨sv, r, ow, a, -⟩ := h.ex
  refine ⟨sv, r.of_block (K.block q r.lt), fun v hv => ?_⟩
  have o := ow v hv
  have na := a v hv
  have hl : (nxt es es.length v).length = (outs es v).length := by simp [outs]
  rw [hl, outs_qz hrg v] at o
  obtain ⟨so, sc, e⟩ := owns_slice1j o
  have o' := o
  rw [e] at o'
  have J := JRow.of_owns o'
  refine ⟨so, sc, e, J.room, J.most, fun hp => ?_⟩
  obtain ⟨b, off, e2, hc⟩ := J.cell hp
  refine ⟨b, off, e2, fun t => ?_, fun j hj => ?_⟩
  · have lt := o.lt b (by rw [e, e2]; rfl)
    rcases hF b t with s | s | s
    · omega
    · omega
    · exact na (by rw [e, e2, s]; rfl)
  · have := K.cell (hc j hj)
    rw [qz_get _ _ hj] at this
    exact this

theorem own_formV {w : World} {base e : Nat} {v : Value} {n : Nat} {xs : List Value} (h : w.ownsRow base e 1 v n xs) (hn : 0 < n) : ∃ g cap, v = .slice (some ⟨g, 0, none⟩) n cap := by
  rcases h.2 with ⟨rfl, rfl⟩ | ⟨g, cap, cur, rfl, _⟩
  · omega
  · exact ⟨g, cap, rfl⟩

theorem range_drop {n k : Nat} (hk : k < n) : (List.range n).drop k = k :: (List.range n).drop (k + 1) := by
  rw [List.drop_eq_getElem_cons (by simpa using hk)]
  simp

theorem Un_tm0 (n : Nat) : Un n tm0 ≤ n := Un.le n tm0

theorem unset2_calls (n : Nat) (hn : n ≤ 1024) (w : World) :
    Calls Try.prog 28 #[.int .i64 (n : Int)] w fun r w' => ∃ g, r = .returned (.slice (some ⟨g, 0, none⟩) n n) ∧ IntsAt w' g n (fun _ => -1) ∧ Kept w w' ∧ w.heap.size ≤ g :=
  (unset_calls n hn w).mono fun _ _ h => ⟨_, h.1, h.2.1, h.2.2, Nat.le_succ _⟩

set_option maxRecDepth 100000 in
set_option maxHeartbeats 8000000 in
theorem visit_calls (n : Nat) (hn : n ≤ 1024) (ao : Option Addr) (m cap : Nat) (es : List Ed) (w : World) (h : ERow w ao m cap es) (hf : Hid (faultOf (n : Int) es = (0, 0))) (hm4 : m ≤ 4096) (hrg : Hid (∀ e ∈ es, 0 ≤ e.f ∧ e.f < (n : Int) ∧ 0 ≤ e.t ∧ e.t < (n : Int))) :
    Calls Try.prog 11 #[.agg #[.int .i64 (n : Int), .slice ao m cap]] w fun r w' => ∃ gp gq, r = .returned (.tuple #[.slice (some ⟨gp, 0, none⟩) n n, .slice (some ⟨gq, 0, none⟩) n n, .int .i64 0]) ∧ IntsAt w' gp n (times es n).pre ∧ IntsAt w' gq n (times es n).post ∧ w.heap.size ≤ gp ∧ w.heap.size ≤ gq ∧ gp ≠ gq ∧ Kept w w' := by
  have hfd : ∀ w : World, (Instr.field 50 (.agg #[.int .i64 0, .int .i64 0]) 0).run Try.prog w = .ok (.int .i64 0) w := fun _ => by kernel_rfl
  have KG : Kept w ((w.alloc (Obj.cells #[.int .i64 (n : Int), .slice ao m cap] 24)).alloc (Obj.cells #[.slice none 0 0] 26)) := ((Kept.refl w).alloc _).alloc _
  have g0 : ((w.alloc (Obj.cells #[.int .i64 (n : Int), .slice ao m cap] 24)).alloc (Obj.cells #[.slice none 0 0] 26)).cell? ⟨w.heap.size, 0, none⟩ = some (.int .i64 (n : Int)) := by simp [go_sem]
  have g1 : ((w.alloc (Obj.cells #[.int .i64 (n : Int), .slice ao m cap] 24)).alloc (Obj.cells #[.slice none 0 0] 26)).cell? ⟨w.heap.size, 1, none⟩ = some (.slice ao m cap) := by simp [go_sem]
  have f0 : ((w.alloc (Obj.cells #[.int .i64 (n : Int), .slice ao m cap] 24)).alloc (Obj.cells #[.slice none 0 0] 26)).cell? ⟨w.heap.size + 1, 0, none⟩ = some (.slice none 0 0) := by simp [go_sem]
  have f1 : ((w.alloc (Obj.cells #[.int .i64 (n : Int), .slice ao m cap] 24)).alloc (Obj.cells #[.slice none 0 0] 26)).frozen? ⟨w.heap.size + 1, 0, none⟩ = false := by simp [go_sem]
  have HE := hid_of (h.kept KG)
  have HL := hid_of h.len
  have H0 := hid_of h
  clear h
  go_enter Try.func11, Try.ntmps11
  go_wp2_with fail
  generalize hW0 : (w.alloc (Obj.cells #[.int .i64 (n : Int), .slice ao m cap] 24)).alloc (Obj.cells #[.slice none 0 0] 26) = W0 at KG g0 g1 f0 f1 HE ⊢
  clear hW0
  refine (check_calls (n : Int) ao m cap es W0 HE.out 0 0 hf).mono ?_
  rintro v wa ⟨rfl, K1⟩
  replace f1 := (Below.frozen (p := ⟨w.heap.size + 1, 0, none⟩) K1 (lt_cell f0)).trans f1
  replace g0 := K1.cell g0
  replace g1 := K1.cell g1
  replace f0 := K1.cell f0
  have HE1 := hid_of (HE.out.kept K1)
  have KA := hid_of (KG.trans K1)
  have lwa : w.heap.size + 1 < wa.heap.size := lt_cell f0
  clear K1 KG HE
  go_wp2_with fail
  have ng : ¬ w.heap.size = w.heap.size + 1 := by omega
  have M1 : True := trivial
  refine Ord.region [(0, 0), (1, 1), (3, 0), (4, 1), (2, 2), (5, 2), (6, 2), (7, 0)] (fun w' => Ch (fun x => x = w.heap.size + 1) wa w') (by kernel_rfl) (by kernel_rfl) (by kernel_rfl) (by kernel_rfl) (fun _ _ d _ _ h => by cases d <;> exact h) ((Ch.refl _ wa).drewN _) ?_
  repeat
    refine Ord.step rfl (fun Ko hK => ?_)
    simp only [Ord.body]
    go_simp
    first
      | (refine hK _ _ ?_; clear hK Ko)
      | (refine ⟨_, fun w' hS => (by have c0 := hS.cell g0 ng; simp only [c0, Result.andThen]; rfl), hK _ _ ?_⟩; clear hK Ko)
      | (go_at_call 28; clear M1; refine (unset2_calls n hn _).mono ?_; rintro r w2 ⟨gp, rfl, I2, K2, hgp⟩; refine ⟨((Ch.refl _ wa).drewN 1).trans (.of_kept K2), hK _ _ ?_⟩; clear hK Ko)
      | (go_at_call 28; refine (unset2_calls n hn _).mono ?_; rintro r w3 ⟨gq, rfl, I3, K3, hgq⟩; have K23 := (((Kept.refl wa).drewN 1).trans K2).trans K3; have x3 := K23.cell f0; have z3 := (Below.frozen (p := ⟨w.heap.size + 1, 0, none⟩) K23 (lt_cell f0)).trans f1; refine ⟨Ch.of_kept K23, hK _ _ ?_⟩; clear hK Ko)
      | (refine ⟨(Ch.of_kept K23).setCell (F := fun x => x = w.heap.size + 1) (p := ⟨w.heap.size + 1, 0, none⟩) rfl _, hK _ _ ?_⟩; clear hK Ko)
  refine Ord.done ?_
  have hgp' : wa.heap.size ≤ gp := hgp
  have hgq' : gp < gq := Nat.lt_of_lt_of_le I2.lt hgq
  have x4 := World.cell?_setCell_same w3 ⟨w.heap.size + 1, 0, none⟩ (.slice (some ⟨gp, 0, none⟩) n n) x3
  have z4 : (w3.setCell ⟨w.heap.size + 1, 0, none⟩ (.slice (some ⟨gp, 0, none⟩) n n)).frozen? ⟨w.heap.size + 1, 0, none⟩ = false := by simpa [go_sem] using z3
  have C4 : Ch (fun k => k = w.heap.size + 1) w3 (w3.setCell ⟨w.heap.size + 1, 0, none⟩ (.slice (some ⟨gp, 0, none⟩) n n)) := (Ch.refl (fun k => k = w.heap.size + 1) w3).setCell (F := fun k => k = w.heap.size + 1) (p := ⟨w.heap.size + 1, 0, none⟩) rfl _
  have P4 := hid_of ((I2.kept K3).ch C4 (by omega))
  have Q4 := hid_of (I3.ch C4 (by omega))
  have K4 := hid_of ((KA.out.trans K23).ch C4 (fun k t => by omega))
  replace g0 := C4.cell (K23.cell g0) ng
  replace g1 := C4.cell (K23.cell g1) ng
  have HE4 := hid_of (H0.out.kept K4.out)
  generalize hW4 : w3.setCell ⟨w.heap.size + 1, 0, none⟩ (.slice (some ⟨gp, 0, none⟩) n n) = W4 at *
  clear hW4 C4 x3 z3 I2 I3 K2 K3 K23 f0 f1 HE1 KA hgp hgq
  go_wp2_with fail
  refine (next_calls n hn ao m cap es W4 HE4.out (by omega) (fun e he => ⟨(hrg.out e he).1, (hrg.out e he).2.1⟩)).mono ?_
  rintro v w5 ⟨q, rfl, N5, K5⟩
  have hge := N5.ge
  have hq5 : q < w5.heap.size := by obtain ⟨_, r, _⟩ := N5.ex; exact r.lt
  rw [HL.out] at N5
  have lgq := Q4.out.lt
  have lgp := P4.out.lt
  have KW : Kept w5 ((w5.alloc (Obj.cells #[.int .i64 0] 3)).alloc (Obj.cells #[.slice none 0 0] 26)) := ((Kept.refl w5).alloc _).alloc _
  have k0 : ((w5.alloc (Obj.cells #[.int .i64 0] 3)).alloc (Obj.cells #[.slice none 0 0] 26)).cell? ⟨w5.heap.size, 0, none⟩ = some (.int .i64 0) := by simp [go_sem]
  have kz : ((w5.alloc (Obj.cells #[.int .i64 0] 3)).alloc (Obj.cells #[.slice none 0 0] 26)).frozen? ⟨w5.heap.size, 0, none⟩ = false := by simp [go_sem]
  have o0 : ((w5.alloc (Obj.cells #[.int .i64 0] 3)).alloc (Obj.cells #[.slice none 0 0] 26)).cell? ⟨w5.heap.size + 1, 0, none⟩ = some (.slice none 0 0) := by simp [go_sem]
  have oz : ((w5.alloc (Obj.cells #[.int .i64 0] 3)).alloc (Obj.cells #[.slice none 0 0] 26)).frozen? ⟨w5.heap.size + 1, 0, none⟩ = false := by simp [go_sem]
  have RW := hid_of (N5.rems (F := five gp gq w5.heap.size (w5.heap.size + 1) q) hrg.out KW (fun k t => by rcases t with t | t | t | t | t <;> omega))
  have P5 := hid_of ((P4.out.kept K5).kept KW)
  have Q5 := hid_of ((Q4.out.kept K5).kept KW)
  have KF := hid_of (K4.out.trans (K5.trans KW))
  replace g0 := (K5.trans KW).cell g0
  replace x4 := (K5.trans KW).cell x4
  replace z4 := (Below.frozen (p := ⟨w.heap.size + 1, 0, none⟩) (K5.trans KW) (Nat.lt_of_lt_of_le lwa (by omega))).trans z4
  have hsz5 := K5.size
  clear N5 K5 KW g1 HE4 P4 Q4 K4
  go_upto_region 9 with fail
  have hWs : ((w5.alloc (Obj.cells #[.int .i64 0] 3)).alloc (Obj.cells #[.slice none 0 0] 26)).heap.size = w5.heap.size + 2 := by simp
  generalize hW : (w5.alloc (Obj.cells #[.int .i64 0] 3)).alloc (Obj.cells #[.slice none 0 0] 26) = W at *
  clear hW
  obtain ⟨bk, hbk⟩ : ∃ bk, w5.heap.size = bk := ⟨_, rfl⟩
  obtain ⟨bo, hbo⟩ : ∃ bo, w5.heap.size + 1 = bo := ⟨_, rfl⟩
  obtain ⟨bp, hbp⟩ : ∃ bp, w.heap.size + 1 = bp := ⟨_, rfl⟩
  have A : Apart5 W gp gq bk bo q := by constructor <;> omega
  have np : ¬ five gp gq bk bo q bp := fun t => by rcases t with t | t | t | t | t <;> omega
  have ngr : ¬ five gp gq bk bo q w.heap.size := fun t => by rcases t with t | t | t | t | t <;> omega
  have hwgp : w.heap.size ≤ gp := by omega
  have hwgq : w.heap.size ≤ gq := by omega
  have hwall : Hid (∀ k, five gp gq bk bo q k → w.heap.size ≤ k) := fun k t => by rcases t with t | t | t | t | t <;> omega
  have hwbp : w.heap.size ≤ bp := by omega
  rw [hbo, hbk] at RW
  rw [hbk] at k0 kz
  rw [hbo] at o0 oz
  rw [hbp] at x4 z4
  have V0 : Hid (VAt W W gp gq bk bo q n tm0 [] (outs es)) := ⟨Ch.refl _ _, P5.out, Q5.out, k0, kz, ⟨none, 0, o0, World.ownsRow_nil _ _ _ _⟩, oz, RW.out⟩
  rw [hbo, hbk, hbp]
  have HA := hid_of A
  have hL := hid_of (outs_lt hrg.out)
  have dpq : gp ≠ gq := A.d12
  clear P5 Q5 RW k0 kz o0 oz hWs A hbk hbo hbp lgq lgp hgp' hgq' lwa hge hq5 hsz5
  go_wp2_with fail
  go_loopw [30] (fun i wr => ∃ k : Nat, k ≤ n ∧ i = .int .i64 (k : Int) ∧ ∃ s rem, VAt W wr gp gq bk bo q n s [] rem ∧ vis (outs es) n s ((List.range n).drop k) = times es n ∧ (∀ v, v < n → s.pre v < 0 → rem v = outs es v) ∧ s.clk + 2 * Un n s ≤ 2 * n ∧ (∀ v, v < n → ∀ t ∈ rem v, t < n)) (fun i _ => n - (intOf i).toNat)
  case atStart => exact ⟨0, by omega, rfl, tm0, outs es, V0.out, rfl, fun _ _ _ => rfl, by have := Un_tm0 n; show 0 + _ ≤ _; omega, hL.out⟩
  case round =>
    obtain ⟨k, hk, rfl, s, rem, V, hT, hnew, hb, hlts⟩ := hrel
    clear V0
    have x5 := V.ch.cell x4 np
    by_cases hgo : (k : Int) < (n : Int)
    · have hkn : k < n := by omega
      have ck := V.pre.cell hkn
      rw [range_drop hkn] at hT
      by_cases hp : s.pre k < 0
      · have hge0 : ¬ 0 ≤ s.pre k := by omega
        have hvt : vis (outs es) n ((vis (outs es) n (s.ent k) (outs es k)).lv k) ((List.range n).drop (k + 1)) = times es n := by rw [← hT, vis_new hL.out hkn hp]
        have D0 := hid_of (DInv.start hkn hp hnew hb hlts)
        have VC := hid_of (vcl_calls W wr gp gq bk bo q bp n hn HA x4 np s [] rem (by show 0 < n; omega) (by omega) V k hkn)
        have HT := hid_of hvt
        obtain ⟨T, hTT⟩ : ∃ T, (vis (outs es) n (s.ent k) (outs es k)).lv k = T := ⟨_, rfl⟩
        rw [hTT] at D0 HT
        clear V hT hnew hb hvt hTT hlts
        generalize s.pre k = pk at ck hp hge0
        generalize s.ent k = s1 at D0 VC
        go_wp2_with fail
        go_step3
        go_wp2_with fail
        refine VC.out.mono ?_
        rintro r w7 ⟨rfl, V7⟩
        have V7H := hid_of V7
        clear V7 VC ck
        go_wp2_with fail
        go_step3
        go_wp2_with fail
        have hc0 : Hid (s1.clk ≤ 2 * n) := by have := D0.out.bound; show _ ≤ _; omega
        obtain ⟨G0, hG0⟩ : ∃ G0, Hid (G0 + s1.clk = 2 * n) := ⟨2 * n - s1.clk, by have := hc0.out; show _ = _; omega⟩
        clear hc0
        go_loopg [11, 12] G0 (fun gk _ _ wr => ∃ s st rem, gk + s.clk = 2 * n ∧ VAt W wr gp gq bk bo q n s st rem ∧ DInv (outs es) n rem st s T)
        case atStart => exact ⟨s1, [k], rem, hG0.out, V7H.out, D0.out⟩
        case round =>
          clear V7H D0 hG0 s1 rem w7 G0
          obtain ⟨s, st, rem, hgk, V, D⟩ := hrel
          obtain ⟨so, sc, hbx, hown⟩ := V.box
          have hoz := V.oz
          cases st with
          | nil =>
            have hbx' : wr.cell? ⟨bo, 0, none⟩ = some (.slice so 0 sc) := hbx
            have eT : s = T := D.fin
            have VH := hid_of V
            have HN := hid_of D.new
            have HB : Hid (s.clk + 2 * Un n s ≤ 2 * n) := by have := D.bound; show _ ≤ _; simpa using this
            have HLT := hid_of D.lts
            subst eT
            clear V D hbx hown
            go_wp2_with fail
            rw [Exit.noGoto_normal]
            go_wp2_with fail
            go_roundw
            case rel => exact ⟨k + 1, by omega, by go_num, s, rem, VH.out, HT.out, HN.out, HB.out, HLT.out⟩
            case measure => simp [intOf]; omega
          | cons v S =>
            obtain ⟨g, sc', e'⟩ := own_formV hown (by simp)
            simp only [Value.slice.injEq, true_and] at e'
            obtain ⟨rfl, rfl⟩ := e'
            obtain ⟨lo, hlo⟩ : ∃ lo, S.length = lo := ⟨_, rfl⟩
            have hvn := D.lt v (by simp)
            have hln : lo < n := by have := D.bound; simp only [List.length_cons] at this; have := nodup_len n _ D.nodup D.lt; simp only [List.length_cons] at this; omega
            have hvi : (v : Int) < (n : Int) := by omega
            have hrm := (JRow.of_owns hown).room
            have hmost := (JRow.of_owns hown).most
            unfold maxLen at hmost
            have cl := hown.cellAt lo (by simp only [List.length_cons]; omega)
            rw [jvals_get _ _ (by simp [qz]; omega), qz_get _ _ (by simp; omega)] at cl
            have egl : (v :: S).reverse.getD lo 0 = v := by simp [List.getD, ← hlo]
            rw [egl] at cl
            simp only [List.length_cons, hlo] at hbx hrm
            have VH := hid_of V
            have DH := hid_of D
            have HLO := hid_of hlo
            clear V D hown hlo egl hoz
            generalize hWR : wr = WR at *
            generalize hGK : gk = GK at *
            clear hWR hGK
            go_wp2_with fail
            go_loopg [12] (rem v).length (fun g2 _ wr => ∃ rem', (rem' v).length = g2 ∧ VAt W wr gp gq bk bo q n s (v :: S) rem' ∧ DInv (outs es) n rem' (v :: S) s T)
            case atStart => exact ⟨rem, rfl, VH.out, DH.out⟩
            case round =>
              clear VH DH cl hbx rem
              obtain ⟨rem, hg2, V, D⟩ := hrel
              obtain ⟨sv, rw0, hr⟩ := V.row
              have cq := rw0.cell hvn
              have fq := rw0.frozen v
              obtain ⟨so2, sc2, esv, hle, hmx2, hcells⟩ := (hr v hvn).ex
              rw [esv] at cq
              unfold maxLen at hmx2
              cases hrv : rem v with
              | nil =>
                rw [hrv] at cq
                simp only [List.length_nil] at cq
                obtain ⟨so3, sc3, hbx, hown⟩ := V.box
                obtain ⟨g3, sc4, e'⟩ := own_formV hown (by simp)
                simp only [Value.slice.injEq, true_and] at e'
                obtain ⟨rfl, rfl⟩ := e'
                have hoz := V.oz
                have hrm3 := (JRow.of_owns hown).room
                have k0 := V.clk
                have kz := V.kz
                have cv := V.post.cell hvn
                have fv := World.rowIs.frozen V.post v
                have hbd := D.bound
                have VL := V.leave HA.out hbx
                simp only [List.length_cons, HLO.out] at hbx VL hrm3
                obtain ⟨c, hc⟩ : ∃ c, s.clk = c := ⟨_, rfl⟩
                rw [hc] at k0 hbd VL hgk
                have hwr : IntKind.i64.wrap ((c : Int) + 1) = (c : Int) + 1 := by rw [IntKind.wrap_i64]; first | omega | (unfold wrap64; omega)
                have A := HA.out
                have C1 : Ch (fun k => k = gq) wr (wr.setCell ⟨gq, v, none⟩ (.int .i64 (c : Int))) := (Ch.refl (fun k => k = gq) wr).setCell (F := fun k => k = gq) (p := ⟨gq, v, none⟩) rfl _
                have k1 := C1.cell k0 (fun t => A.d23 t.symm)
                have kz1 := (C1.frozen (o := 0) (lt_cell k0) (fun t => A.d23 t.symm)).trans kz
                have C2 : Ch (fun k => k = bk) (wr.setCell ⟨gq, v, none⟩ (.int .i64 (c : Int))) ((wr.setCell ⟨gq, v, none⟩ (.int .i64 (c : Int))).setCell ⟨bk, 0, none⟩ (.int .i64 ((c : Int) + 1))) := (Ch.refl (fun k => k = bk) _).setCell (F := fun k => k = bk) (p := ⟨bk, 0, none⟩) rfl _
                have b2 := C2.cell (C1.cell hbx (fun t => A.d24 t.symm)) (fun t => A.d34 t.symm)
                have bz2 := ((C2.frozen (o := 0) (lt_cell (C1.cell hbx (fun t => A.d24 t.symm))) (fun t => A.d34 t.symm)).trans (C1.frozen (o := 0) (lt_cell hbx) (fun t => A.d24 t.symm))).trans hoz
                have VLH := hid_of VL
                have DL := hid_of (D.leave hrv)
                have HCL : Hid ((s.lv v).clk = c + 1) := by show s.clk + 1 = c + 1; rw [hc]
                have hcn : c < 2 * n := by simp only [List.length_cons] at hbd; omega
                clear V D VL hown hr rw0 hc C1 C2 A hcells
                go_wp2_with fail
                go_roundg (GK - 1)
                case measure => omega
                case rel => exact ⟨s.lv v, S, rem, by rw [HCL.out]; omega, VLH.out, DL.out⟩
              | cons t l =>
                rw [hrv] at cq hle hcells
                simp only [List.length_cons] at cq hle hcells
                obtain ⟨ll, hll⟩ : ∃ ll, l.length = ll := ⟨_, rfl⟩
                rw [hll] at cq hle hcells
                obtain ⟨b, off, rfl, nb, hc⟩ := hcells (by omega)
                have ct := V.ch.cell (hc 0 (by omega)) nb
                simp only [List.getD_cons_zero, Nat.add_zero] at ct
                have htn := D.lts v hvn t (by rw [hrv]; simp)
                have hti : (t : Int) < (n : Int) := by omega
                have x5 := V.ch.cell x4 np
                have R2 : Hid (RemAt W (five gp gq bk bo q) (if sc2 = 1 then .slice (some ⟨b, off, none⟩) ll 0 else .slice (some ⟨b, off + 1, none⟩) ll (sc2 - 1)) l) := by
                  by_cases e : sc2 = 1
                  · rw [if_pos e]
                    exact ⟨_, _, by rw [hll], by omega, by unfold maxLen; omega, fun hp => by omega⟩
                  · rw [if_neg e]
                    refine ⟨_, _, by rw [hll], by omega, by unfold maxLen; omega, fun hp => ⟨b, off + 1, rfl, nb, fun j hj => ?_⟩⟩
                    have := hc (j + 1) (by omega)
                    rw [show off + (j + 1) = off + 1 + j by omega] at this
                    simpa using this
                have VC := hid_of (V.cut HA.out (v := v) R2.out)
                have HG2 := hid_of hg2
                have VH := hid_of V
                have DH := hid_of D
                have HRV := hid_of hrv
                have HLL := hid_of hll
                clear V D hr rw0 hg2 hc hcells hll hrv
                by_cases e : sc2 = 1
                · rw [if_pos e] at VC
                  clear R2
                  go_upto_region 19 with fail
                  generalize hW8 : wr.setCell ⟨q, v, none⟩ (.slice (some ⟨b, off, none⟩) ll 0) = W8 at VC ⊢
                  clear hW8
                  have cp := VC.out.pre.cell htn
                  have x6 := VC.out.ch.cell x4 np
                  clear cq fq ct x5
                  by_cases hp : s.pre t < 0
                  · have DE := DH.out.enter hL.out HRV.out htn hp
                    have hnl := nodup_len n _ DE.nodup DE.lt
                    have hbd := DE.bound
                    simp only [List.length_cons] at hnl
                    have hck : (s.ent t).clk = s.clk + 1 := rfl
                    have VE := hid_of (vcl_calls W W8 gp gq bk bo q bp n hn HA x4 np s (v :: S) (cutAt rem v l) (by simp only [List.length_cons]; omega) (by omega) VC.out t htn)
                    have hGK : GK ≠ 0 := by rw [hck] at hbd; omega
                    have DEH := hid_of DE
                    have HCK := hid_of hck
                    generalize s.pre t = pt at cp hp
                    clear VC DH VH DE hck hbd hnl
                    go_wp2_with fail
                    refine VE.out.mono ?_
                    rintro r w9 ⟨rfl, V9⟩
                    have V9H := hid_of V9
                    clear V9 VE
                    go_wp2_with fail
                    go_roundg (GK - 1)
                    case measure => omega
                    case rel => exact ⟨s.ent t, t :: v :: S, cutAt rem v l, by rw [HCK.out]; omega, V9H.out, DEH.out⟩
                  · have DS := hid_of (DH.out.skip HRV.out hp)
                    have HGL : Hid ((cutAt rem v l v).length = gk - 1) := by
                      have h1 := HG2.out
                      rw [HRV.out] at h1
                      simp only [List.length_cons] at h1
                      show (if v = v then l else rem v).length = gk - 1
                      rw [if_pos rfl]
                      omega
                    have hgk0 : gk ≠ 0 := by have h1 := HG2.out; rw [HRV.out] at h1; simp only [List.length_cons] at h1; omega
                    generalize s.pre t = pt at cp hp
                    clear DH VH
                    go_wp2_with fail
                    go_roundg (gk - 1)
                    case measure => omega
                    case rel => exact ⟨cutAt rem v l, HGL.out, VC.out, DS.out⟩
                · rw [if_neg e] at VC
                  clear R2
                  go_upto_region 19 with fail
                  generalize hW8 : wr.setCell ⟨q, v, none⟩ (.slice (some ⟨b, off + 1, none⟩) ll (sc2 - 1)) = W8 at VC ⊢
                  clear hW8
                  have cp := VC.out.pre.cell htn
                  have x6 := VC.out.ch.cell x4 np
                  clear cq fq ct x5
                  by_cases hp : s.pre t < 0
                  · have DE := DH.out.enter hL.out HRV.out htn hp
                    have hnl := nodup_len n _ DE.nodup DE.lt
                    have hbd := DE.bound
                    simp only [List.length_cons] at hnl
                    have hck : (s.ent t).clk = s.clk + 1 := rfl
                    have VE := hid_of (vcl_calls W W8 gp gq bk bo q bp n hn HA x4 np s (v :: S) (cutAt rem v l) (by simp only [List.length_cons]; omega) (by omega) VC.out t htn)
                    have hGK : GK ≠ 0 := by rw [hck] at hbd; omega
                    have DEH := hid_of DE
                    have HCK := hid_of hck
                    generalize s.pre t = pt at cp hp
                    clear VC DH VH DE hck hbd hnl
                    go_wp2_with fail
                    refine VE.out.mono ?_
                    rintro r w9 ⟨rfl, V9⟩
                    have V9H := hid_of V9
                    clear V9 VE
                    go_wp2_with fail
                    go_roundg (GK - 1)
                    case measure => omega
                    case rel => exact ⟨s.ent t, t :: v :: S, cutAt rem v l, by rw [HCK.out]; omega, V9H.out, DEH.out⟩
                  · have DS := hid_of (DH.out.skip HRV.out hp)
                    have HGL : Hid ((cutAt rem v l v).length = gk - 1) := by
                      have h1 := HG2.out
                      rw [HRV.out] at h1
                      simp only [List.length_cons] at h1
                      show (if v = v then l else rem v).length = gk - 1
                      rw [if_pos rfl]
                      omega
                    have hgk0 : gk ≠ 0 := by have h1 := HG2.out; rw [HRV.out] at h1; simp only [List.length_cons] at h1; omega
                    generalize s.pre t = pt at cp hp
                    clear DH VH
                    go_wp2_with fail
                    go_roundg (gk - 1)
                    case measure => omega
                    case rel => exact ⟨cutAt rem v l, HGL.out, VC.out, DS.out⟩
      · have hge0 : 0 ≤ s.pre k := by omega
        rw [vis_old hp] at hT
        have VH := hid_of V
        have HT := hid_of hT
        have HN := hid_of hnew
        have HB := hid_of hb
        have HLT := hid_of hlts
        clear V hT hnew hb hlts
        generalize s.pre k = pk at ck hp hge0
        go_wp2_with fail
        go_step3
        go_wp2_with fail
        rw [Exit.noGoto_exit]
        go_wp2_with fail
        go_roundw
        case rel => exact ⟨k + 1, by omega, by go_num, s, rem, VH.out, HT.out, HN.out, HB.out, HLT.out⟩
        case measure => simp [intOf]; omega
    · obtain rfl : k = n := by omega
      have hTe : s = times es k := by
        rw [← hT, List.drop_of_length_le (by simp), vis_nil]
      subst hTe
      have P9 := V.pre
      have Q9 := V.post
      have C9 : Ch (fun j => j = bp) wr (wr.setCell ⟨bp, 0, none⟩ (.slice (some ⟨gp, 0, none⟩) k k)) := (Ch.refl (fun j => j = bp) wr).setCell (F := fun j => j = bp) (p := ⟨bp, 0, none⟩) rfl _
      have z5 := (V.ch.frozen (o := 0) (lt_cell x4) np).trans z4
      have FP := hid_of (P9.ch C9 (fun t => np (.inl t.symm)))
      have FQ := hid_of (Q9.ch C9 (fun t => np (.inr (.inl t.symm))))
      have FK : Hid (Kept w (wr.setCell ⟨bp, 0, none⟩ (.slice (some ⟨gp, 0, none⟩) k k))) := (KF.out.ch V.ch hwall.out).setCell (p := ⟨bp, 0, none⟩) hwbp _
      have FC := World.cell?_setCell_same wr ⟨bp, 0, none⟩ (.slice (some ⟨gp, 0, none⟩) k k) x5
      clear V P9 Q9 C9 hT hnew hb
      go_wp2_with fail
      exact bodyPost_ret (v := .tuple #[.slice (some ⟨gp, 0, none⟩) k k, .slice (some ⟨gq, 0, none⟩) k k, .int .i64 0]) (by simp [results, Try.results11, go_sem, FC]) rfl ⟨gp, gq, rfl, FP.out, FQ.out, hwgp, hwgq, dpq, FK.out⟩
end Go.Proofs.Ytjheiaegpoppaaa

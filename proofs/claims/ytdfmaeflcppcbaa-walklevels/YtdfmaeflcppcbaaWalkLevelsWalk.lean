/- WalkLevels: the walk of the law. -/
import Derived.Test.YtdfmaeflcppcbaaWkL
namespace Go.Proofs.Ytdfmaeflcppcbaa
open Go.RowKit

theorem JRow.of_ints {w : World} {g n : Nat} {f : Nat → Int} (h : IntsAt w g n f) (hn : n ≤ maxLen) : JRow w (some ⟨g, 0, none⟩) n n ((List.range n).map f) :=
  ⟨by simp, Nat.le_refl _, hn, fun _ => ⟨g, 0, rfl, fun i hi => by
    rw [Nat.zero_add, h.cell hi]
    simp [List.getD, hi]⟩⟩

theorem JRow.none (w : World) : JRow w none 0 0 [] := ⟨rfl, Nat.le_refl _, by unfold maxLen; omega, fun h => by omega⟩

set_option maxRecDepth 100000 in
set_option maxHeartbeats 4000000 in
theorem walkLevelsBad (nodes : Int) (ao : Option Addr) (m cap : Nat) (es : List Ed) (w : World) (h : ERow w ao m cap es) (c a : Int) (hf : Hid (faultOf nodes es = (c, a))) (s : Int) (hb : c ≠ 0 ∨ s < 0 ∨ nodes ≤ s) :
    Calls Try.prog 3 #[.agg #[.int .i64 nodes, .slice ao m cap], .int .i64 s] w fun v w' => v = .returned (.bool true) ∧ Kept w w' := by
  have hnot : ∀ (x : Bool) (w : World), (Op.unary .not (.bool x)).run Try.prog w = .ok (.bool (!x)) w := fun _ _ => rfl
  have KG : Kept w (w.alloc (Obj.cells #[.int .i64 nodes, .slice ao m cap] 24)) := (Kept.refl w).alloc _
  have g0 : (w.alloc (Obj.cells #[.int .i64 nodes, .slice ao m cap] 24)).cell? ⟨w.heap.size, 0, none⟩ = some (.int .i64 nodes) := by simp [go_sem]
  have g1 : (w.alloc (Obj.cells #[.int .i64 nodes, .slice ao m cap] 24)).cell? ⟨w.heap.size, 1, none⟩ = some (.slice ao m cap) := by simp [go_sem]
  have HE := hid_of (h.kept KG)
  have HB := hid_of hb
  clear h hb
  go_enter Try.func3, Try.ntmps3
  go_wp2_with fail
  generalize hW0 : w.alloc (Obj.cells #[.int .i64 nodes, .slice ao m cap] 24) = W0 at KG g0 g1 HE ⊢
  clear hW0
  refine (awake_calls W0).mono ?_
  rintro v wa ⟨rfl, K1⟩
  replace g0 := K1.cell g0
  replace g1 := K1.cell g1
  have HE1 := hid_of (HE.out.kept K1)
  have KA := hid_of (KG.trans K1)
  clear K1 KG HE
  go_wp2_with fail
  obtain ⟨cc, hcc⟩ : ∃ cc, Hid (cc = if c = 0 then 30 else c) := ⟨_, hid_of rfl⟩
  refine (levelsBad_calls nodes ao m cap es wa HE1.out c a hf s HB.out cc hcc).mono ?_
  rintro v wb ⟨rfl, K2⟩
  replace g0 := K2.cell g0
  replace g1 := K2.cell g1
  have HE2 := hid_of (HE1.out.kept K2)
  have KB := hid_of (KA.out.trans K2)
  clear K2 KA HE1
  go_wp2_with fail
  refine (levelsRBad_calls nodes ao m cap es wb HE2.out c a hf s HB.out cc hcc).mono ?_
  rintro v wc ⟨rfl, K3⟩
  have KC := hid_of (KB.out.trans K3)
  clear K3 KB HE2
  go_wp2_with fail
  refine (ints_calls none none 0 0 0 [] wc (JRow.none wc) (JRow.none wc)).mono ?_
  rintro v wd ⟨rfl, K4⟩
  have KD := hid_of (KC.out.trans K4)
  have qe : (cc == cc) = true := by simp
  clear K4 KC
  go_wp2_with fail
  go_ret
  exact ⟨rfl, KD.out⟩

set_option maxRecDepth 100000 in
set_option maxHeartbeats 4000000 in
theorem walkLevelsGood (n : Nat) (hn : n ≤ 1024) (ao : Option Addr) (m cap : Nat) (es : List Ed) (w : World) (h : ERow w ao m cap es) (hf : Hid (faultOf (n : Int) es = (0, 0))) (hm4 : m ≤ 4096) (hrg : Hid (∀ e ∈ es, 0 ≤ e.f ∧ e.f < (n : Int) ∧ 0 ≤ e.t ∧ e.t < (n : Int))) (s : Nat) (hs : s < n) :
    Calls Try.prog 3 #[.agg #[.int .i64 (n : Int), .slice ao m cap], .int .i64 (s : Int)] w fun v w' => v = .returned (.bool true) ∧ Kept w w' := by
  have hnot : ∀ (x : Bool) (w : World), (Op.unary .not (.bool x)).run Try.prog w = .ok (.bool (!x)) w := fun _ _ => rfl
  have KG : Kept w (w.alloc (Obj.cells #[.int .i64 (n : Int), .slice ao m cap] 24)) := (Kept.refl w).alloc _
  have g0 : (w.alloc (Obj.cells #[.int .i64 (n : Int), .slice ao m cap] 24)).cell? ⟨w.heap.size, 0, none⟩ = some (.int .i64 (n : Int)) := by simp [go_sem]
  have g1 : (w.alloc (Obj.cells #[.int .i64 (n : Int), .slice ao m cap] 24)).cell? ⟨w.heap.size, 1, none⟩ = some (.slice ao m cap) := by simp [go_sem]
  have HE := hid_of (h.kept KG)
  have HL := hid_of h.len
  clear h
  go_enter Try.func3, Try.ntmps3
  go_wp2_with fail
  generalize hW0 : w.alloc (Obj.cells #[.int .i64 (n : Int), .slice ao m cap] 24) = W0 at KG g0 g1 HE ⊢
  clear hW0
  refine (awake_calls W0).mono ?_
  rintro v wa ⟨rfl, K1⟩
  replace g0 := K1.cell g0
  replace g1 := K1.cell g1
  have HE1 := hid_of (HE.out.kept K1)
  have KA := hid_of (KG.trans K1)
  clear K1 KG HE
  go_wp2_with fail
  refine (levels_calls n hn ao m cap es wa HE1.out hf hm4 hrg s hs).mono ?_
  rintro v wb ⟨g, lv, rfl, LV, I2, lg, K2⟩
  have LS := hid_of (LV.levs HL.out hs hrg.out)
  replace g0 := K2.cell g0
  replace g1 := K2.cell g1
  have HE2 := hid_of (HE1.out.kept K2)
  have KB := hid_of (KA.out.trans K2)
  have I2H := hid_of I2
  clear LV I2 K2 HE1 KA lg
  go_wp2_with fail
  refine (levelsR_calls n hn ao m cap es wb HE2.out hf hrg s hs lv LS).mono ?_
  rintro v wc ⟨g', rfl, I3, K3⟩
  have I2C := hid_of (I2H.out.kept K3)
  have I3C := hid_of I3
  have KC := hid_of (KB.out.trans K3)
  clear K3 KB HE2 I3 I2H
  go_wp2_with fail
  refine (ints_calls (some ⟨g, 0, none⟩) (some ⟨g', 0, none⟩) n n n ((List.range n).map lv) wc (JRow.of_ints I2C.out (by unfold maxLen; omega)) (JRow.of_ints I3C.out (by unfold maxLen; omega))).mono ?_
  rintro v wd ⟨rfl, K4⟩
  have KD := hid_of (KC.out.trans K4)
  clear K4 KC I2C I3C
  go_wp2_with fail
  go_ret
  exact ⟨rfl, KD.out⟩
end Go.Proofs.Ytdfmaeflcppcbaa

/- WalkParts: the walk of the law. -/
import Derived.Test.YtjheiaegpoppaaaPaM
namespace Go.Proofs.Ytjheiaegpoppaaa
open Go.RowKit

theorem JRow.nilP (w : World) : JRow w none 0 0 [] := ⟨rfl, Nat.le_refl _, by unfold maxLen; omega, fun h => by omega⟩

set_option maxRecDepth 100000 in
set_option maxHeartbeats 4000000 in
theorem walkPartsBad (nodes : Int) (ao : Option Addr) (m cap : Nat) (es : List Ed) (w : World) (h : ERow w ao m cap es) (c a : Int) (hf : Hid (faultOf nodes es = (c, a))) (hb : c ≠ 0) :
    Calls Try.prog 5 #[.agg #[.int .i64 nodes, .slice ao m cap]] w fun v w' => v = .returned (.bool true) ∧ Kept w w' := by
  have hnot : ∀ (x : Bool) (w : World), (Op.unary .not (.bool x)).run Try.prog w = .ok (.bool (!x)) w := fun _ _ => rfl
  have KG : Kept w (w.alloc (Obj.cells #[.int .i64 nodes, .slice ao m cap] 24)) := (Kept.refl w).alloc _
  have g0 : (w.alloc (Obj.cells #[.int .i64 nodes, .slice ao m cap] 24)).cell? ⟨w.heap.size, 0, none⟩ = some (.int .i64 nodes) := by simp [go_sem]
  have g1 : (w.alloc (Obj.cells #[.int .i64 nodes, .slice ao m cap] 24)).cell? ⟨w.heap.size, 1, none⟩ = some (.slice ao m cap) := by simp [go_sem]
  have HE := hid_of (h.kept KG)
  have HB := hid_of hb
  clear h hb
  go_enter Try.func5, Try.ntmps5
  go_wp2_with fail
  generalize hW0 : w.alloc (Obj.cells #[.int .i64 nodes, .slice ao m cap] 24) = W0 at KG g0 g1 HE ⊢
  clear hW0
  refine (line_calls W0).mono ?_
  rintro v wl ⟨lb, rfl, EL, KL⟩
  have ELH := hid_of EL
  replace g0 := KL.cell g0
  replace g1 := KL.cell g1
  have HE0 := hid_of (HE.out.kept KL)
  have K0 := hid_of (KG.trans KL)
  clear EL KL KG HE
  go_wp2_with fail
  refine (strong_calls 3 (by omega) (some ⟨lb, 0, none⟩) 2 2 line3 wl ELH.out (fun e => by cases e) line_fault (by omega) line_range).mono ?_
  rintro v w1 ⟨gs, cs, cts, rfl, IS, NS, -, K1⟩
  obtain ⟨n0, n1, n2⟩ := line_strong NS
  have KB : Kept w1 (w1.alloc (Obj.cells #[.int .i64 0, .int .i64 1, .int .i64 2] 3)) := (Kept.refl w1).alloc _
  have JS : JRow (w1.alloc (Obj.cells #[.int .i64 0, .int .i64 1, .int .i64 2] 3)) (some ⟨gs, 0, none⟩) 3 3 [0, 1, 2] := ⟨rfl, by omega, by unfold maxLen; omega, fun _ => ⟨gs, 0, rfl, fun i hi => by
    rw [Nat.zero_add, (IS.kept KB).cell hi]
    have : i = 0 ∨ i = 1 ∨ i = 2 := by omega
    rcases this with rfl | rfl | rfl
    · rw [n0]; rfl
    · rw [n1]; rfl
    · rw [n2]; rfl⟩⟩
  have JT : JRow (w1.alloc (Obj.cells #[.int .i64 0, .int .i64 1, .int .i64 2] 3)) (some ⟨w1.heap.size, 0, none⟩) 3 3 [0, 1, 2] := ⟨rfl, by omega, by unfold maxLen; omega, fun _ => ⟨w1.heap.size, 0, rfl, fun i hi => by
    have : i = 0 ∨ i = 1 ∨ i = 2 := by omega
    rcases this with rfl | rfl | rfl <;> simp [go_sem]⟩⟩
  have IC := hid_of (ints_calls (some ⟨gs, 0, none⟩) (some ⟨w1.heap.size, 0, none⟩) 3 3 3 [0, 1, 2] _ JS JT)
  replace g0 := (K1.trans KB).cell g0
  replace g1 := (K1.trans KB).cell g1
  have HE1 := hid_of (HE0.out.kept (K1.trans KB))
  have KA := hid_of (K0.out.trans (K1.trans KB))
  clear IS NS n0 n1 n2 JS JT K1 KB HE0 K0 ELH
  go_wp2_with (go_at_call 13; refine IC.out.mono ?_; rintro v w2 ⟨rfl, K2⟩; replace g0 := K2.cell g0; replace g1 := K2.cell g1; have HE2 := hid_of (HE1.out.kept K2); have KB := hid_of (KA.out.trans K2); clear K2 KA HE1 IC)
  refine (partsBad_calls nodes ao m cap es w2 HE2.out c a hf HB.out).mono ?_
  rintro v w3 ⟨rfl, K3⟩
  replace g0 := K3.cell g0
  replace g1 := K3.cell g1
  have HE3 := hid_of (HE2.out.kept K3)
  have KC := hid_of (KB.out.trans K3)
  clear K3 KB HE2
  go_wp2_with fail
  refine (partsRBad_calls nodes ao m cap es w3 HE3.out c a hf HB.out).mono ?_
  rintro v w4 ⟨rfl, K4⟩
  replace g0 := K4.cell g0
  replace g1 := K4.cell g1
  have HE4 := hid_of (HE3.out.kept K4)
  have KD := hid_of (KC.out.trans K4)
  clear K4 KC HE3
  go_wp2_with fail
  refine (strongBad_calls nodes ao m cap es w4 HE4.out c a hf HB.out).mono ?_
  rintro v w5 ⟨rfl, K5⟩
  replace g0 := K5.cell g0
  replace g1 := K5.cell g1
  have HE5 := hid_of (HE4.out.kept K5)
  have KE := hid_of (KD.out.trans K5)
  clear K5 KD HE4
  go_wp2_with fail
  refine (strongRBad_calls nodes ao m cap es w5 HE5.out c a hf HB.out).mono ?_
  rintro v w6 ⟨rfl, K6⟩
  have KF := hid_of (KE.out.trans K6)
  clear K6 KE HE5
  go_wp2_with fail
  refine (ints_calls none none 0 0 0 [] w6 (JRow.nilP w6) (JRow.nilP w6)).mono ?_
  rintro v w7 ⟨rfl, K7⟩
  have KH := hid_of (KF.out.trans K7)
  have qe : (c == c) = true := by simp
  clear K7 KF
  go_wp2_with fail
  refine (ints_calls none none 0 0 0 [] w7 (JRow.nilP w7) (JRow.nilP w7)).mono ?_
  rintro v w8 ⟨rfl, K8⟩
  have KI := hid_of (KH.out.trans K8)
  clear K8 KH
  go_wp2_with fail
  go_ret
  exact ⟨rfl, KI.out⟩

set_option maxRecDepth 100000 in
set_option maxHeartbeats 4000000 in
theorem walkPartsGood (n : Nat) (hn : n ≤ 1024) (ao : Option Addr) (m cap : Nat) (es : List Ed) (w : World) (h : ERow w ao m cap es) (hnil : Hid (ao = none → m = 0 ∧ cap = 0)) (hf : Hid (faultOf (n : Int) es = (0, 0))) (hm4 : m ≤ 4096) (hrg : Hid (∀ e ∈ es, 0 ≤ e.f ∧ e.f < (n : Int) ∧ 0 ≤ e.t ∧ e.t < (n : Int))) :
    Calls Try.prog 5 #[.agg #[.int .i64 (n : Int), .slice ao m cap]] w fun v w' => v = .returned (.bool true) ∧ Kept w w' := by
  have hnot : ∀ (x : Bool) (w : World), (Op.unary .not (.bool x)).run Try.prog w = .ok (.bool (!x)) w := fun _ _ => rfl
  have KG : Kept w (w.alloc (Obj.cells #[.int .i64 (n : Int), .slice ao m cap] 24)) := (Kept.refl w).alloc _
  have g0 : (w.alloc (Obj.cells #[.int .i64 (n : Int), .slice ao m cap] 24)).cell? ⟨w.heap.size, 0, none⟩ = some (.int .i64 (n : Int)) := by simp [go_sem]
  have g1 : (w.alloc (Obj.cells #[.int .i64 (n : Int), .slice ao m cap] 24)).cell? ⟨w.heap.size, 1, none⟩ = some (.slice ao m cap) := by simp [go_sem]
  have HE := hid_of (h.kept KG)
  clear h
  go_enter Try.func5, Try.ntmps5
  go_wp2_with fail
  generalize hW0 : w.alloc (Obj.cells #[.int .i64 (n : Int), .slice ao m cap] 24) = W0 at KG g0 g1 HE ⊢
  clear hW0
  refine (line_calls W0).mono ?_
  rintro v wl ⟨lb, rfl, EL, KL⟩
  have ELH := hid_of EL
  replace g0 := KL.cell g0
  replace g1 := KL.cell g1
  have HE0 := hid_of (HE.out.kept KL)
  have K0 := hid_of (KG.trans KL)
  clear EL KL KG HE
  go_wp2_with fail
  refine (strong_calls 3 (by omega) (some ⟨lb, 0, none⟩) 2 2 line3 wl ELH.out (fun e => by cases e) line_fault (by omega) line_range).mono ?_
  rintro v w1 ⟨gs, cs, cts, rfl, IS, NS, -, K1⟩
  obtain ⟨n0, n1, n2⟩ := line_strong NS
  have KB : Kept w1 (w1.alloc (Obj.cells #[.int .i64 0, .int .i64 1, .int .i64 2] 3)) := (Kept.refl w1).alloc _
  have JS : JRow (w1.alloc (Obj.cells #[.int .i64 0, .int .i64 1, .int .i64 2] 3)) (some ⟨gs, 0, none⟩) 3 3 [0, 1, 2] := ⟨rfl, by omega, by unfold maxLen; omega, fun _ => ⟨gs, 0, rfl, fun i hi => by
    rw [Nat.zero_add, (IS.kept KB).cell hi]
    have : i = 0 ∨ i = 1 ∨ i = 2 := by omega
    rcases this with rfl | rfl | rfl
    · rw [n0]; rfl
    · rw [n1]; rfl
    · rw [n2]; rfl⟩⟩
  have JT : JRow (w1.alloc (Obj.cells #[.int .i64 0, .int .i64 1, .int .i64 2] 3)) (some ⟨w1.heap.size, 0, none⟩) 3 3 [0, 1, 2] := ⟨rfl, by omega, by unfold maxLen; omega, fun _ => ⟨w1.heap.size, 0, rfl, fun i hi => by
    have : i = 0 ∨ i = 1 ∨ i = 2 := by omega
    rcases this with rfl | rfl | rfl <;> simp [go_sem]⟩⟩
  have IC := hid_of (ints_calls (some ⟨gs, 0, none⟩) (some ⟨w1.heap.size, 0, none⟩) 3 3 3 [0, 1, 2] _ JS JT)
  replace g0 := (K1.trans KB).cell g0
  replace g1 := (K1.trans KB).cell g1
  have HE1 := hid_of (HE0.out.kept (K1.trans KB))
  have KA := hid_of (K0.out.trans (K1.trans KB))
  clear IS NS n0 n1 n2 JS JT K1 KB HE0 K0 ELH
  go_wp2_with (go_at_call 13; refine IC.out.mono ?_; rintro v w2 ⟨rfl, K2⟩; replace g0 := K2.cell g0; replace g1 := K2.cell g1; have HE2 := hid_of (HE1.out.kept K2); have KB := hid_of (KA.out.trans K2); clear K2 KA HE1 IC)
  refine (parts_calls n hn ao m cap es w2 HE2.out hnil hf hm4 hrg).mono ?_
  rintro v w3 ⟨ga, ca, cta, rfl, IA, NA, -, K3⟩
  replace g0 := K3.cell g0
  replace g1 := K3.cell g1
  have HE3 := hid_of (HE2.out.kept K3)
  have KC := hid_of (KB.out.trans K3)
  have IAH := hid_of IA
  have NAH := hid_of NA
  clear K3 KB HE2 IA NA
  go_wp2_with fail
  refine (partsR_calls n hn ao m cap es w3 HE3.out hf hrg).mono ?_
  rintro v w4 ⟨gb, cb, ctb, rfl, IB, NB, K4⟩
  replace g0 := K4.cell g0
  replace g1 := K4.cell g1
  have HE4 := hid_of (HE3.out.kept K4)
  have KD := hid_of (KC.out.trans K4)
  have IA4 := hid_of (IAH.out.kept K4)
  have IBH := hid_of IB
  have NBH := hid_of NB
  clear K4 KC HE3 IB NB IAH
  go_wp2_with fail
  refine (strong_calls n hn ao m cap es w4 HE4.out hnil hf hm4 hrg).mono ?_
  rintro v w5 ⟨gc, cc, ctc, rfl, ID, ND, -, K5⟩
  replace g0 := K5.cell g0
  replace g1 := K5.cell g1
  have HE5 := hid_of (HE4.out.kept K5)
  have KE := hid_of (KD.out.trans K5)
  have IA5 := hid_of (IA4.out.kept K5)
  have IB5 := hid_of (IBH.out.kept K5)
  have IDH := hid_of ID
  have NDH := hid_of ND
  clear K5 KD HE4 ID ND IA4 IBH
  go_wp2_with fail
  refine (strongR_calls n hn ao m cap es w5 HE5.out hf hrg).mono ?_
  rintro v w6 ⟨gd, cd, ctd, rfl, IE, NE, K6⟩
  have hmax : n ≤ maxLen := by unfold maxLen; omega
  have J1 := JRow.ofNum (IA5.out.kept K6) NAH.out NAH.out hmax
  have J2 := JRow.ofNum (IB5.out.kept K6) NAH.out NBH.out hmax
  have J3 := hid_of (JRow.ofNum (IDH.out.kept K6) NDH.out NDH.out hmax)
  have J4 := hid_of (JRow.ofNum IE NDH.out NE hmax)
  have I1 := hid_of (ints_calls (some ⟨ga, 0, none⟩) (some ⟨gb, 0, none⟩) n n n _ w6 J1 J2)
  have KF := hid_of (KE.out.trans K6)
  clear K6 KE HE5 J1 J2 IE NE IA5 IB5 IDH NAH NBH NDH hmax
  go_wp2_with fail
  refine I1.out.mono ?_
  rintro v w7 ⟨rfl, K7⟩
  have I2 := hid_of (ints_calls (some ⟨gc, 0, none⟩) (some ⟨gd, 0, none⟩) n n n _ w7 (J3.out.kept K7) (J4.out.kept K7))
  have KH := hid_of (KF.out.trans K7)
  clear K7 KF I1 J3 J4
  go_wp2_with fail
  refine I2.out.mono ?_
  rintro v w8 ⟨rfl, K8⟩
  have KI := hid_of (KH.out.trans K8)
  clear K8 KH I2
  go_wp2_with fail
  go_ret
  exact ⟨rfl, KI.out⟩
end Go.Proofs.Ytjheiaegpoppaaa

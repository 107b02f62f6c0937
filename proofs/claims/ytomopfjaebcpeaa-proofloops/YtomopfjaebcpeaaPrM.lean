/- Mean. -/
import Derived.Test.YtomopfjaebcpeaaPrL
namespace Go.Proofs.Ytomopfjaebcpeaa
open Go.RowKit

/-- The boxes of Mean. -/
def meanW (w : World) (nodes : Int) (ao : Option Addr) (n cap : Nat) (a b : Value) : World :=
  (((w.alloc (Obj.cells #[.int .i64 nodes, .slice ao n cap] 24)).alloc (Obj.cells #[a, b] 45)).alloc (Obj.cells #[.int .i64 0, .int .i64 0] 47)).alloc (Obj.cells #[.int .i64 0, .int .i64 0] 47)

set_option maxRecDepth 100000 in
set_option linter.unusedSimpArgs false in
set_option maxHeartbeats 1000000 in
theorem mean_wrap (nodes : Int) (ao : Option Addr) (n cap : Nat) (co : Option Addr) (L cc : Nat) (po : Option Addr) (mp pc : Nat) (w : World) (A : Int → Int → Int → Prop)
    (HC : ∀ w1, Kept w w1 → w1.heap.size = w.heap.size + 4 → GBox w1 w.heap.size nodes ao n cap → Box2 w1 (w.heap.size + 1) (.slice co L cc) (.slice po mp pc) → Box2 w1 (w.heap.size + 3) (.int .i64 0) (.int .i64 0) → (∀ o, w1.frozen? ⟨w.heap.size + 3, o, none⟩ = false) →
      Calls Try.prog 48 #[.agg #[.int .i64 nodes, .slice ao n cap], .func (.func 65) #[] #[.pointer (some ⟨w.heap.size + 1, 0, none⟩), .pointer (some ⟨w.heap.size, 0, none⟩), .pointer (some ⟨w.heap.size + 3, 0, none⟩)]] w1 fun e w2 => ∃ p q code, A p q code ∧ e = .returned (.int .i64 code) ∧ Ch (fun k => k = w.heap.size + 3) w1 w2 ∧ Box2 w2 (w.heap.size + 3) (.int .i64 p) (.int .i64 q)) :
    Calls Try.prog 22 #[.agg #[.int .i64 nodes, .slice ao n cap], .agg #[.slice co L cc, .slice po mp pc]] w fun e w' => (∃ p q code, A p q code ∧ e = .returned (.tuple #[.agg #[.int .i64 p, .int .i64 q], .int .i64 code])) ∧ Kept w w' := by
  have hmf : ∀ (fn : Fn) (first cap : Array Value) (w : World), (Instr.makeFunc fn first cap).run Try.prog w = .ok (.func fn first cap) w := fun _ _ _ _ => rfl
  have KW : Kept w (meanW w nodes ao n cap (.slice co L cc) (.slice po mp pc)) := ((((Kept.refl w).alloc _).alloc _).alloc _).alloc _
  have hsz : (meanW w nodes ao n cap (.slice co L cc) (.slice po mp pc)).heap.size = w.heap.size + 4 := by simp [meanW]
  have hG : GBox (meanW w nodes ao n cap (.slice co L cc) (.slice po mp pc)) w.heap.size nodes ao n cap := ⟨by simp [meanW, go_sem], by simp [meanW, go_sem]⟩
  have hB : Box2 (meanW w nodes ao n cap (.slice co L cc) (.slice po mp pc)) (w.heap.size + 1) (.slice co L cc) (.slice po mp pc) := ⟨by simp [meanW, go_sem], by simp [meanW, go_sem]⟩
  have hV : Box2 (meanW w nodes ao n cap (.slice co L cc) (.slice po mp pc)) (w.heap.size + 3) (.int .i64 0) (.int .i64 0) := ⟨by simp [meanW, go_sem], by simp [meanW, go_sem]⟩
  have hF : ∀ o, (meanW w nodes ao n cap (.slice co L cc) (.slice po mp pc)).frozen? ⟨w.heap.size + 3, o, none⟩ = false := fun o => by simp [meanW, go_sem]
  have c0 : (meanW w nodes ao n cap (.slice co L cc) (.slice po mp pc)).cell? ⟨w.heap.size + 2, 0, none⟩ = some (.int .i64 0) := by simp [meanW, go_sem]
  have c1 : (meanW w nodes ao n cap (.slice co L cc) (.slice po mp pc)).cell? ⟨w.heap.size + 2, 1, none⟩ = some (.int .i64 0) := by simp [meanW, go_sem]
  have z0 : (meanW w nodes ao n cap (.slice co L cc) (.slice po mp pc)).frozen? ⟨w.heap.size + 2, 0, none⟩ = false := by simp [meanW, go_sem]
  have z1 : (meanW w nodes ao n cap (.slice co L cc) (.slice po mp pc)).frozen? ⟨w.heap.size + 2, 1, none⟩ = false := by simp [meanW, go_sem]
  have HCH := hid_of (HC _ KW hsz hG hB hV hF)
  have hdef : meanW w nodes ao n cap (.slice co L cc) (.slice po mp pc) = (((w.alloc (Obj.cells #[.int .i64 nodes, .slice ao n cap] 24)).alloc (Obj.cells #[.slice co L cc, .slice po mp pc] 45)).alloc (Obj.cells #[.int .i64 0, .int .i64 0] 47)).alloc (Obj.cells #[.int .i64 0, .int .i64 0] 47) := rfl
  have HD := hid_of hdef
  have HSZ := hid_of hsz
  clear HC hG hB hV hF hdef hsz
  go_enter Try.func22, Try.ntmps22
  go_wp2_with fail
  rw [← HD.out]
  generalize meanW w nodes ao n cap (.slice co L cc) (.slice po mp pc) = W0 at KW HCH c0 c1 z0 z1 HD HSZ ⊢
  clear HD
  refine HCH.out.mono ?_
  rintro e wa ⟨p, q, code, hA, rfl, C1, hV⟩
  have HA := hid_of hA
  clear hA
  replace c0 := C1.cell c0 (by omega)
  replace c1 := C1.cell c1 (by omega)
  replace z0 := (C1.frozen (b := w.heap.size + 2) (o := 0) (by rw [HSZ.out]; omega) (by omega)).trans z0
  replace z1 := (C1.frozen (b := w.heap.size + 2) (o := 1) (by rw [HSZ.out]; omega) (by omega)).trans z1
  obtain ⟨v0, v1⟩ := hV
  have HK : Hid (Kept w wa) := KW.ch C1 (fun k hk => by subst hk; omega)
  have hsa : w.heap.size + 4 ≤ wa.heap.size := by have := C1.size; rw [HSZ.out] at this; exact this
  clear KW C1 HCH HSZ
  obtain ⟨t1, t2, t3, t4⟩ := box2w c0 c1 (.int .i64 p) (.int .i64 q)
  have KF : Hid (Kept w ((wa.setCell ⟨w.heap.size + 2, 0, none⟩ (.int .i64 p)).setCell ⟨w.heap.size + 2, 1, none⟩ (.int .i64 q))) := (HK.out.setCell (p := ⟨w.heap.size + 2, 0, none⟩) (by simp) _).setCell (p := ⟨w.heap.size + 2, 1, none⟩) (by simp) _
  go_wp2
  refine bodyPost_ret (v := .tuple #[.agg #[.int .i64 p, .int .i64 q], .int .i64 code]) (by simp [results, Try.results22, go_sem, Nat.add_assoc, t3, t4]) rfl ⟨⟨p, q, code, HA.out, rfl⟩, ?_⟩
  exact KF.out

/-- What Mean answers. -/
def MeanAns (nodes : Int) (es : List Ed) (n : Nat) (c : List Int) (L : Nat) (pot : List Int) (mp : Nat) (p q code : Int) : Prop :=
  ((faultOf nodes es).1 ≠ 0 ∧ p = 0 ∧ q = 0 ∧ code = (faultOf nodes es).1) ∨ ((faultOf nodes es).1 = 0 ∧ ((MeanOk es nodes.toNat n c L pot mp ∧ Lowest (csum es c L) (L : Int) p q ∧ code = 0) ∨ (¬ MeanOk es nodes.toNat n c L pot mp ∧ p = 0 ∧ q = 0 ∧ code = 221)))

set_option maxRecDepth 100000 in
theorem meanEnter (a b c : Value) : ∀ w, Sem.run Try.prog (callFunc 65 #[a, b, c]) w = .ok (.enter 65 #[a, b, c]) w := fun _ => rfl

theorem mean_calls (nodes : Int) (ao : Option Addr) (n cap : Nat) (es : List Ed) (co : Option Addr) (L cc : Nat) (c : List Int) (po : Option Addr) (mp pc : Nat) (pot : List Int) (w : World) (h : ERow w ao n cap es) (hJ : JRow w co L cc c) (hP : JRow w po mp pc pot) :
    Calls Try.prog 22 #[.agg #[.int .i64 nodes, .slice ao n cap], .agg #[.slice co L cc, .slice po mp pc]] w fun e w' => (∃ p q code, MeanAns nodes es n c L pot mp p q code ∧ e = .returned (.tuple #[.agg #[.int .i64 p, .int .i64 q], .int .i64 code])) ∧ Kept w w' := by
  refine mean_wrap nodes ao n cap co L cc po mp pc w _ fun w1 K1 hsz G B V F => ?_
  by_cases hc : (faultOf nodes es).1 = 0
  · have hf := fault_zero hc
    obtain ⟨N, rfl, RG⟩ := right_of hf
    rw [← h.len] at RG
    have Lk := fun (w2 : World) (K : Kept w1 w2) => meanLook_calls (w.heap.size + 1) w.heap.size (w.heap.size + 3) co L cc c po mp pc pot N ao n cap es w2 (B.kept K) (G.kept K) _ _ (V.kept K) (fun o => (Below.frozen (p := ⟨w.heap.size + 3, o, none⟩) K (by show w.heap.size + 3 < _; omega)).trans (F o)) (h.kept (K1.trans K)) (hJ.kept (K1.trans K)) (hP.kept (K1.trans K)) RG
    by_cases ok : MeanOk es N n c L pot mp
    · refine (looked_ok (N : Int) ao n cap es w1 (h.kept K1) (hid_of hf) 65 #[.pointer (some ⟨w.heap.size + 1, 0, none⟩), .pointer (some ⟨w.heap.size, 0, none⟩), .pointer (some ⟨w.heap.size + 3, 0, none⟩)] (meanEnter _ _ _) (fun k => k = w.heap.size + 3) (fun w2 => ∃ p q, Lowest (csum es c L) (L : Int) p q ∧ Box2 w2 (w.heap.size + 3) (.int .i64 p) (.int .i64 q)) (fun k hk => by subst hk; omega)
        (fun w2 K => (Lk w2 K).mono fun e w3 hp => ?_)).mono fun e w2 hp => ?_
      · rcases hp with ⟨_, h1, p, q, wx, hl, Kx, rfl⟩ | ⟨h1, _⟩
        · have V2 := (V.kept K).kept Kx
          obtain ⟨t1, t2, t3, t4⟩ := box2w V2.f0 V2.f1 (.int .i64 p) (.int .i64 q)
          exact ⟨h1, ⟨p, q, hl, ⟨t3, t4⟩⟩, Ch.setCell (F := fun k => k = w.heap.size + 3) (Ch.setCell (F := fun k => k = w.heap.size + 3) (Ch.of_kept Kx) (p := ⟨w.heap.size + 3, 0, none⟩) rfl _) (p := ⟨w.heap.size + 3, 1, none⟩) rfl _⟩
        · exact absurd ok h1
      · obtain ⟨h1, w3, ⟨p, q, hl, V3⟩, C1, C2⟩ := hp
        exact ⟨p, q, 0, .inr ⟨hc, .inl ⟨by simpa using ok, hl, rfl⟩⟩, h1, C1.trans' C2 (fun i hi => .inr (by omega)), ⟨C2.cell V3.f0 (by omega), C2.cell V3.f1 (by omega)⟩⟩
    · refine (looked_no (N : Int) ao n cap es w1 (h.kept K1) (hid_of hf) 65 #[.pointer (some ⟨w.heap.size + 1, 0, none⟩), .pointer (some ⟨w.heap.size, 0, none⟩), .pointer (some ⟨w.heap.size + 3, 0, none⟩)] (meanEnter _ _ _) 221 (fun w2 K => (Lk w2 K).mono fun e w3 hp => ?_)).mono fun e w2 hp => ?_
      · rcases hp with ⟨h1, _⟩ | ⟨_, h1, h2⟩
        · exact absurd h1 ok
        · exact ⟨h1, h2⟩
      · exact ⟨0, 0, 221, .inr ⟨hc, .inr ⟨by simpa using ok, rfl, rfl, rfl⟩⟩, hp.1, Ch.of_kept hp.2, V.kept hp.2⟩
  · obtain ⟨c', a, hf⟩ : ∃ c a, faultOf nodes es = (c, a) := ⟨_, _, rfl⟩
    have hc' : c' ≠ 0 := by rw [hf] at hc; exact hc
    refine (looked_bad nodes ao n cap es w1 (h.kept K1) c' a (hid_of hf) hc' _).mono fun e w2 hp => ?_
    exact ⟨0, 0, c', .inl ⟨hc, rfl, rfl, by rw [hf]⟩, hp.1, Ch.of_kept hp.2, V.kept hp.2⟩
end Go.Proofs.Ytomopfjaebcpeaa

/- The document's Costs, Rounds, Together. -/
import Derived.Test.YtomopfjaebcpeaaPrT
import Derived.Test.YtomopfjaebcpeaaRfD
import Derived.Test.YtomopfjaebcpeaaCnC
namespace Go.Proofs.Ytomopfjaebcpeaa
open Go.RowKit

open Classical in
/-- The code of a graph with its costs. -/
noncomputable def costCode (nodes : Int) (es : List Ed) (n : Nat) : Int := if (faultOf nodes es).1 ≠ 0 then (faultOf nodes es).1 else if ¬ CostsOk es n then 80 else 0

set_option maxRecDepth 100000 in
set_option linter.unusedSimpArgs false in
set_option maxHeartbeats 2000000 in
theorem costsR_calls (nodes : Int) (ao : Option Addr) (n cap : Nat) (es : List Ed) (w : World) (h : ERow w ao n cap es) (z : Int) (hz : Hid (costCode nodes es n = z)) :
    Calls Try.prog 46 #[.agg #[.int .i64 nodes, .slice ao n cap]] w fun e w' => e = .returned (.int .i64 z) ∧ Kept w w' := by
  obtain ⟨c, a, hf⟩ : ∃ c a, faultOf nodes es = (c, a) := ⟨_, _, rfl⟩
  have hz' := hz.out
  unfold costCode at hz'
  rw [hf] at hz'
  have hr := h.room
  have hm := h.most
  unfold maxLen at hm
  have KW : Kept w (w.alloc (Obj.cells #[.int .i64 nodes, .slice ao n cap] 24)) := (Kept.refl w).alloc _
  have w0 : (w.alloc (Obj.cells #[.int .i64 nodes, .slice ao n cap] 24)).cell? ⟨w.heap.size, 0, none⟩ = some (.int .i64 nodes) := by simp [go_sem]
  have w1 : (w.alloc (Obj.cells #[.int .i64 nodes, .slice ao n cap] 24)).cell? ⟨w.heap.size, 1, none⟩ = some (.slice ao n cap) := by simp [go_sem]
  have CH := hid_of (checkR_calls nodes ao n cap es _ (h.kept KW) c a (hid_of hf))
  have HE := hid_of h
  clear h hz
  by_cases hc : c = 0
  rotate_left
  · rw [if_pos hc] at hz'
    subst hz'
    have q : (c == 0) = false := by simpa using hc
    clear hc hf
    go_enter Try.func46, Try.ntmps46
    go_wp2_with fail
    refine CH.out.mono ?_
    rintro e wa ⟨rfl, K1⟩
    have HK := hid_of (KW.trans K1)
    clear KW K1 CH w0 w1
    go_wp2_with fail
    go_loopw [3, 5] (fun s i wr => i = .int .i64 0 ∧ s = .int .i64 c ∧ wa = wr) (fun _ _ _ => 0)
    case atStart => exact ⟨rfl, rfl, rfl⟩
    case round =>
      obtain ⟨rfl, rfl, rfl⟩ := hrel
      go_wp2
      go_ret
      exact ⟨rfl, HK.out⟩
  subst hc
  rw [if_neg (by simp)] at hz'
  have HZ := hid_of hz'
  clear hz' hf
  go_enter Try.func46, Try.ntmps46
  go_wp2_with fail
  refine CH.out.mono ?_
  rintro e wa ⟨rfl, K1⟩
  have HK := hid_of (KW.trans K1)
  replace w1 := K1.cell w1
  clear KW K1 CH w0
  go_wp2_with fail
  go_loopw [3, 5] (fun s i wr => wa = wr ∧ ((∃ (k : Nat), k ≤ n ∧ i = .int .i64 k ∧ s = .int .i64 0 ∧ ∀ j, j < k → 0 ≤ (edAt es j).k) ∨ (∃ (k : Nat), k ≤ n ∧ i = .int .i64 k ∧ s = .int .i64 80 ∧ ¬ CostsOk es n))) (fun s i _ => (n - (intOf i).toNat) )
  case atStart => exact ⟨rfl, .inl ⟨0, by omega, rfl, rfl, fun i hi => by omega⟩⟩
  case round =>
    obtain ⟨rfl, hrel⟩ := hrel
    rcases hrel with ⟨k, hk, rfl, rfl, hno⟩ | ⟨k, hk, rfl, rfl, hno⟩
    · have HNO := hid_of hno
      clear hno
      by_cases hgo : (k : Int) < (n : Int)
      · obtain ⟨b, off, rfl, hc⟩ := (HE.out.kept HK.out).cell (by omega)
        obtain ⟨d1, d2, d3, d4⟩ := hc k (by omega)
        have HIT : Hid (0 ≤ (edAt es k).k → ∀ j, j < k + 1 → 0 ≤ (edAt es j).k) := fun hb i hi => by
          by_cases e : i = k
          · subst e; exact hb
          · exact HNO.out i (by omega)
        have MISS : Hid (¬ 0 ≤ (edAt es k).k → ¬ CostsOk es n) := fun hb q => hb (q k (by omega))
        clear hc d1 d2 d3
        generalize (edAt es k).k = x at d4 HIT MISS
        by_cases hx : 0 ≤ x
        · have P := hid_of (HIT.out hx)
          have q0 : decide (x < 0) = false := decide_eq_false (by omega)
          clear HIT MISS hx
          go_wp2_with fail
          go_roundw
          case rel => exact ⟨by trivial, .inl ⟨k + 1, by omega, by go_num, rfl, P.out⟩⟩
          case measure => simp [intOf]; omega
        · have P := hid_of (MISS.out hx)
          have q0 : decide (x < 0) = true := decide_eq_true (by omega)
          clear HIT MISS hx
          go_wp2_with fail
          go_roundw
          case rel => exact ⟨by trivial, .inr ⟨k + 1, by omega, by go_num, rfl, P.out⟩⟩
          case measure => simp [intOf]; omega
      · obtain rfl : k = n := by omega
        have e := HZ.out
        rw [if_neg (fun t => t (show CostsOk es k from HNO.out))] at e
        subst e
        clear HZ
        go_wp2
        go_ret
        exact ⟨rfl, HK.out⟩
    · have e := HZ.out
      rw [if_pos hno] at e
      subst e
      clear HZ hno
      go_wp2
      go_ret
      exact ⟨rfl, HK.out⟩

/-- Each edge is walked once or more, and as often into each node as out of it. -/
def RoundsOk (es : List Ed) (N n : Nat) (ts : List Int) (m : Nat) : Prop := TimesOk ts m n ∧ ∀ v : Nat, v < N → outTo es (zAt ts) (v : Int) n = 0

set_option maxRecDepth 100000 in
set_option linter.unusedSimpArgs false in
set_option maxHeartbeats 4000000 in
theorem roundsR_calls (ao : Option Addr) (N n cap : Nat) (es : List Ed) (bo : Option Addr) (m bc : Nat) (ts : List Int) (w : World) (h : ERow w ao n cap es) (hJ : JRow w bo m bc ts) (RG : Right N n es) :
    Calls Try.prog 39 #[.agg #[.int .i64 (N : Int), .slice ao n cap], .slice bo m bc] w fun e w' => Kept w w' ∧ ((RoundsOk es N n ts m ∧ e = .returned (.bool true)) ∨ (¬ RoundsOk es N n ts m ∧ e = .returned (.bool false))) := by
  have hr := h.room
  have hm := h.most
  have hr2 := hJ.room
  have hm2 := hJ.most
  unfold maxLen at hm hm2
  have hN := RG.nodes
  have hn := RG.edges
  have KW : Kept w (w.alloc (Obj.cells #[.int .i64 (N : Int), .slice ao n cap] 24)) := (Kept.refl w).alloc _
  have w0 : (w.alloc (Obj.cells #[.int .i64 (N : Int), .slice ao n cap] 24)).cell? ⟨w.heap.size, 0, none⟩ = some (.int .i64 (N : Int)) := by simp [go_sem]
  have w1 : (w.alloc (Obj.cells #[.int .i64 (N : Int), .slice ao n cap] 24)).cell? ⟨w.heap.size, 1, none⟩ = some (.slice ao n cap) := by simp [go_sem]
  have HE := hid_of (h.kept KW)
  have HJ := hid_of (hJ.kept KW)
  have RGH := hid_of RG
  clear h hJ RG
  by_cases hmn : m = n
  rotate_left
  · have q : ((m : Int) != (n : Int)) = true := by simpa using fun e => hmn (by omega)
    go_enter Try.func39, Try.ntmps39
    go_wp2
    go_ret
    exact ⟨KW, .inr ⟨fun t => hmn t.1.1, rfl⟩⟩
  subst hmn
  have qmm : ((m : Int) != (m : Int)) = false := by simp
  go_enter Try.func39, Try.ntmps39
  go_wp2_with fail
  generalize w.alloc (Obj.cells #[.int .i64 (N : Int), .slice ao m cap] 24) = W1 at KW HE HJ w0 w1 ⊢
  go_loopw [5] (fun i wr => ∃ (k : Nat), k ≤ m ∧ i = .int .i64 k ∧ W1 = wr ∧ ∀ j, j < k → 1 ≤ zAt ts j ∧ zAt ts j ≤ 1048576) (fun i _ => m - (intOf i).toNat)
  case atStart => exact ⟨0, by omega, rfl, rfl, fun i hi => by omega⟩
  case round =>
    obtain ⟨k, hk, rfl, rfl, hno⟩ := hrel
    have HNO := hid_of hno
    clear hno
    by_cases hgo : (k : Int) < (m : Int)
    · obtain ⟨b2, off2, rfl, hc2⟩ := HJ.out.at (by omega)
      have d5 := hc2 k (by omega)
      clear hc2
      have HIT : Hid ((1 ≤ zAt ts k ∧ zAt ts k ≤ 1048576) → ∀ j, j < k + 1 → 1 ≤ zAt ts j ∧ zAt ts j ≤ 1048576) := fun hb i hi => by
        by_cases e : i = k
        · subst e; exact hb
        · exact HNO.out i (by omega)
      have MISS : Hid (¬ (1 ≤ zAt ts k ∧ zAt ts k ≤ 1048576) → ¬ RoundsOk es N m ts m) := fun hb t => hb (t.1.2 k (by omega))
      generalize zAt ts k = x at d5 HIT MISS
      clear HJ HE
      by_cases hx : 1 ≤ x
      · have g1 : decide (x < 1) = false := decide_eq_false (by omega)
        by_cases hy : x ≤ 1048576
        · have g2 : decide (1048576 < x) = false := decide_eq_false (by omega)
          have P := hid_of (HIT.out ⟨hx, hy⟩)
          clear HIT MISS
          go_wp2_with fail
          go_roundw
          case rel => exact ⟨k + 1, by omega, by go_num, by trivial, P.out⟩
          case measure => simp [intOf]; omega
        · have g2 : decide (1048576 < x) = true := decide_eq_true (by omega)
          have P := hid_of (MISS.out (fun t => hy t.2))
          clear HIT MISS
          go_wp2_with fail
          go_ret
          exact ⟨KW, .inr ⟨P.out, rfl⟩⟩
      · have g1 : decide (x < 1) = true := decide_eq_true (by omega)
        have P := hid_of (MISS.out (fun t => hx t.1))
        clear HIT MISS
        go_wp2_with fail
        go_ret
        exact ⟨KW, .inr ⟨P.out, rfl⟩⟩
    · obtain rfl : k = m := by omega
      have TOK : Hid (TimesOk ts k k) := ⟨rfl, HNO.out⟩
      have SM := hid_of (times_small TOK.out)
      have C := hid_of (fun (v : Int) (w' : World) (K' : Kept W1 w') => outR_calls (N : Int) ao k cap es bo k bc ts v w' (HE.out.kept K') (HJ.out.kept K') (Nat.le_refl _))
      clear HNO
      go_wp2_with fail
      go_loopw [6] (fun i wr => ∃ (v : Nat), v ≤ N ∧ i = .int .i64 v ∧ Kept W1 wr ∧ ∀ u : Nat, u < v → outTo es (zAt ts) (u : Int) k = 0) (fun i _ => N - (intOf i).toNat)
      case atStart => exact ⟨0, by omega, rfl, Kept.refl _, fun i hi => by omega⟩
      case round =>
        obtain ⟨v, hv, rfl, K, hno⟩ := hrel
        have HNO := hid_of hno
        clear hno
        have v0 := K.cell w0
        have v1 := K.cell w1
        by_cases hgo2 : (v : Int) < (N : Int)
        · have HIT : Hid (outTo es (zAt ts) (v : Int) k = 0 → ∀ u : Nat, u < v + 1 → outTo es (zAt ts) (u : Int) k = 0) := fun hb i hi => by
            by_cases e : i = v
            · subst e; exact hb
            · exact HNO.out i (by omega)
          have MISS : Hid (¬ outTo es (zAt ts) (v : Int) k = 0 → ¬ RoundsOk es N k ts k) := fun hb t => hb (t.2 v (by omega))
          have C1 := C.out (v : Int) wr K
          rw [outWT_eq hn es (zAt ts) SM.out (v : Int) k (Nat.le_refl _)] at C1
          have C1H := hid_of C1
          clear C1
          generalize outTo es (zAt ts) (v : Int) k = x at HIT MISS C1H
          clear HE HJ C
          go_wp2_with fail
          refine C1H.out.mono ?_
          rintro e w5 ⟨rfl, K5⟩
          have K6 := hid_of (K.trans K5)
          clear K5 K v0 v1 C1H
          by_cases hxy : x = 0
          · have P := hid_of (HIT.out hxy)
            have q1 : (x != 0) = false := by simp [hxy]
            clear HIT MISS hxy
            go_wp2_with fail
            go_roundw
            case rel => exact ⟨v + 1, by omega, by go_num, K6.out, P.out⟩
            case measure => simp [intOf]; omega
          · have P := hid_of (MISS.out hxy)
            have q1 : (x != 0) = true := by simpa using hxy
            clear HIT MISS hxy
            go_wp2_with fail
            go_ret
            exact ⟨KW.trans K6.out, .inr ⟨P.out, rfl⟩⟩
        · obtain rfl : v = N := by omega
          go_wp2_with fail
          go_ret
          exact ⟨KW.trans K, .inl ⟨⟨TOK.out, HNO.out⟩, rfl⟩⟩

set_option maxRecDepth 100000 in
set_option linter.unusedSimpArgs false in
set_option maxHeartbeats 4000000 in
theorem togR_calls (ao : Option Addr) (N n cap : Nat) (es : List Ed) (w : World) (h : ERow w ao n cap es) (RG : Right N n es) (hf : Hid (faultOf (N : Int) es = (0, 0))) :
    Calls Try.prog 73 #[.agg #[.int .i64 (N : Int), .slice ao n cap]] w fun e w' => Kept w w' ∧ ((HangOk es n ∧ e = .returned (.bool true)) ∨ (¬ HangOk es n ∧ e = .returned (.bool false))) := by
  have hr := h.room
  have hm := h.most
  unfold maxLen at hm
  have hN := RG.nodes
  have hn := RG.edges
  have KW : Kept w (w.alloc (Obj.cells #[.int .i64 (N : Int), .slice ao n cap] 24)) := (Kept.refl w).alloc _
  have w1 : (w.alloc (Obj.cells #[.int .i64 (N : Int), .slice ao n cap] 24)).cell? ⟨w.heap.size, 1, none⟩ = some (.slice ao n cap) := by simp [go_sem]
  have HE := hid_of (h.kept KW)
  have RGH := hid_of RG
  have PC := hid_of (partsR_calls N hN ao n cap es _ (h.kept KW) hf (hid_of (right_rg RG)))
  have SYM : Hid (∀ u v, Way (outs (both es)) u v → Way (outs (both es)) v u) := fun u v t => Way.symm_of (fun a b hab => both_symm (right_rg RG) hab) t
  clear h RG
  go_enter Try.func73, Try.ntmps73
  go_wp2_with fail
  generalize w.alloc (Obj.cells #[.int .i64 (N : Int), .slice ao n cap] 24) = W1 at KW HE w1 PC ⊢
  refine PC.out.mono ?_
  rintro e wa ⟨g, c, cnt, rfl, IA, hnum, K1⟩
  have NF : Hid (∀ u x, u < N → x < N → (c u = c x ↔ Way (outs (both es)) u x)) := (hnum.facts (fun u v _ _ t => SYM.out u v t) (fun u v x _ _ _ a b => a.trans b) (fun u _ => .refl u) N (Nat.le_refl _)).2.2
  have HK := hid_of (KW.trans K1)
  have HE2 := hid_of (HE.out.kept K1)
  have IAH := hid_of IA
  replace w1 := K1.cell w1
  clear KW K1 PC hnum IA HE
  go_wp2_with fail
  go_loopw [5] (fun i wr => ∃ (k : Nat), 1 ≤ k ∧ (n = 0 ∨ k ≤ n) ∧ i = .int .i64 k ∧ Kept wa wr ∧ ∀ j, j < k → j < n → Way (outs (both es)) (edAt es 0).f.toNat (edAt es j).f.toNat) (fun i _ => n - (intOf i).toNat)
  case atStart => exact ⟨1, by omega, by omega, rfl, Kept.refl _, fun j hj _ => (by obtain rfl : j = 0 := (by omega); exact .refl _)⟩
  case round =>
    obtain ⟨k, hk1, hk, rfl, K, hno⟩ := hrel
    have HNO := hid_of hno
    clear hno
    have v1 := K.cell w1
    by_cases hgo : (k : Int) < (n : Int)
    · have hkn : k < n := by omega
      obtain ⟨b, off, rfl, hc⟩ := (HE2.out.kept K).cell (by omega)
      obtain ⟨d1, d2, d3, d4⟩ := hc k (by omega)
      obtain ⟨m1, m2, m3, m4⟩ := hc 0 (by omega)
      obtain ⟨e1, e2, e3, e4⟩ := RGH.out.ends k (by omega)
      obtain ⟨z1, z2, z3, z4⟩ := RGH.out.ends 0 (by omega)
      obtain ⟨x, hx⟩ : ∃ x : Nat, (edAt es k).f = (x : Int) := ⟨(edAt es k).f.toNat, by omega⟩
      obtain ⟨y, hy⟩ : ∃ y : Nat, (edAt es 0).f = (y : Int) := ⟨(edAt es 0).f.toNat, by omega⟩
      have hxN : x < N := by omega
      have hyN : y < N := by omega
      have hxi : (x : Int) < (N : Int) := by omega
      have hyi : (y : Int) < (N : Int) := by omega
      have hni : (0 : Int) < (n : Int) := by omega
      have hnp : 0 < n := by omega
      rw [hx] at d1
      rw [hy] at m1
      simp only [Nat.zero_mul, Nat.add_zero] at m1
      have cx := (IAH.out.kept K).cell hxN
      have cy := (IAH.out.kept K).cell hyN
      have WB : Hid (c x = c y ↔ Way (outs (both es)) (edAt es 0).f.toNat (edAt es k).f.toNat) := by
        show _ ↔ _
        rw [hx, hy, Int.toNat_natCast, Int.toNat_natCast, NF.out x y hxN hyN]
        exact ⟨fun t => SYM.out _ _ t, fun t => SYM.out _ _ t⟩
      have HIT : Hid (c x = c y → ∀ j, j < k + 1 → j < n → Way (outs (both es)) (edAt es 0).f.toNat (edAt es j).f.toNat) := fun hb i hi hin => by
        by_cases e : i = k
        · subst e; exact WB.out.1 hb
        · exact HNO.out i (by omega) hin
      have MISS : Hid (¬ c x = c y → ¬ HangOk es n) := fun hb t => hb (WB.out.2 (t k hkn))
      clear hc d2 d3 d4 m2 m3 m4 e1 e2 e3 e4 z1 z2 z3 z4 hx hy WB
      generalize c x = p at cx HIT MISS
      generalize c y = q at cy HIT MISS
      by_cases hpq : p = q
      · have P := hid_of (HIT.out hpq)
        have qq : (p != q) = false := by simp [hpq]
        clear HIT MISS hpq
        go_wp2_with fail
        refine Ord.region [(0, 0), (1, 0), (2, 1), (3, 0), (4, 0), (5, 0), (6, 1), (7, 0), (8, 1), (9, 0), (10, 0), (11, 1), (12, 0), (13, 0), (14, 1), (15, 0), (16, 1), (17, 0)] (fun w' => Kept wr w') (by kernel_rfl) (by kernel_rfl) (by kernel_rfl) (by kernel_rfl) (fun _ _ d _ _ h => by cases d <;> exact h) ((Kept.refl _).drewN _) ?_
        repeat
          refine Ord.step rfl (fun Ko hK => ?_)
          simp only [Ord.body]
          go_simp
          first
            | (refine hK _ _ ?_; clear hK Ko)
            | (refine ⟨_, fun w' hS => (by have c0 := hS.cell v1; have c1 := hS.cell d1; have c2 := hS.cell m1; have c3 := hS.cell cx; have c4 := hS.cell cy; simp only [c0, c1, c2, c3, c4, Result.andThen]; rfl), hK _ _ ?_⟩; clear hK Ko)
        refine Ord.done ?_
        go_wp2
        go_roundw
        case rel => exact ⟨k + 1, by omega, .inr (by omega), by go_num, K.drewN _, P.out⟩
        case measure => simp [intOf]; omega
      · have P := hid_of (MISS.out hpq)
        have qq : (p != q) = true := by simpa using hpq
        clear HIT MISS hpq
        go_wp2_with fail
        refine Ord.region [(0, 0), (1, 0), (2, 1), (3, 0), (4, 0), (5, 0), (6, 1), (7, 0), (8, 1), (9, 0), (10, 0), (11, 1), (12, 0), (13, 0), (14, 1), (15, 0), (16, 1), (17, 0)] (fun w' => Kept wr w') (by kernel_rfl) (by kernel_rfl) (by kernel_rfl) (by kernel_rfl) (fun _ _ d _ _ h => by cases d <;> exact h) ((Kept.refl _).drewN _) ?_
        repeat
          refine Ord.step rfl (fun Ko hK => ?_)
          simp only [Ord.body]
          go_simp
          first
            | (refine hK _ _ ?_; clear hK Ko)
            | (refine ⟨_, fun w' hS => (by have c0 := hS.cell v1; have c1 := hS.cell d1; have c2 := hS.cell m1; have c3 := hS.cell cx; have c4 := hS.cell cy; simp only [c0, c1, c2, c3, c4, Result.andThen]; rfl), hK _ _ ?_⟩; clear hK Ko)
        refine Ord.done ?_
        go_wp2
        go_ret
        exact ⟨HK.out.trans (K.drewN _), .inr ⟨P.out, rfl⟩⟩
    · have P : Hid (HangOk es n) := fun i hi => HNO.out i (by omega) hi
      have HK2 := hid_of (HK.out.trans K)
      clear HNO K
      go_wp2
      go_ret
      exact ⟨HK2.out, .inl ⟨P.out, rfl⟩⟩
end Go.Proofs.Ytomopfjaebcpeaa

/- Cheapest. -/
import Derived.Test.YtpdppjngbbkbbaaDoorVoY
namespace Go.Proofs.YtpdppjngbbkbbaaDoor
open Go.RowKit

/-- All pairs that an edge joins weigh twice its cost at most. -/
def PairsOk (es : List Ed) (n : Nat) (pr : Nat → Nat → Int) : Prop := ∀ i, i < n → lp es i = true ∨ Within (pr (edAt es i).f.toNat (edAt es i).t.toNat) (2 * (edAt es i).k)

/-- A function that holds pairs of nodes against a bound. -/
def Bounds (w : World) (wb N : Nat) (pr : Nat → Nat → Int) : Prop :=
  ∀ u v : Nat, u < N → v < N → ∀ bd w2, Kept w w2 → Calls Tryd.prog 103 #[.int .i64 (u : Int), .int .i64 (v : Int), .int .i64 bd, .pointer (some ⟨wb, 0, none⟩)] w2 fun e w3 => Kept w2 w3 ∧ ((Within (pr u v) bd ∧ e = .returned (.tuple #[])) ∨ (¬ Within (pr u v) bd ∧ e = .panicked [{ v := .iface 140 (.agg #[.int .i64 221]), recovered := false }]))

set_option maxRecDepth 100000 in
set_option linter.unusedSimpArgs false in
set_option maxHeartbeats 4000000 in
theorem cheB_calls (wb gb : Nat) (pr : Nat → Nat → Int) (N : Nat) (ao : Option Addr) (n cap : Nat) (es : List Ed) (w : World) (hG : GBox w gb (N : Int) ao n cap) (h : ERow w ao n cap es) (RG : Right N n es) (HB : Bounds w wb N pr) :
    Calls Tryd.prog 69 #[.func (.func 103) #[] #[.pointer (some ⟨wb, 0, none⟩)], .pointer (some ⟨gb, 0, none⟩)] w fun e w' => Kept w w' ∧ ((PairsOk es n pr ∧ e = .returned (.tuple #[])) ∨ (¬ PairsOk es n pr ∧ e = .panicked [{ v := .iface 140 (.agg #[.int .i64 221]), recovered := false }])) := by
  obtain ⟨g0, g1⟩ := hG
  have hN := RG.nodes
  have hn := RG.edges
  have hr1 := h.room
  have hm1 := h.most
  unfold maxLen at hm1
  have HE := hid_of h
  have RGH := hid_of RG
  have HBH := hid_of HB
  clear h RG HB g0
  go_enter Tryd.func69, Tryd.ntmps69
  go_wp2_with fail
  go_loopw [4, 8] (fun _ i wr => ∃ (k : Nat), k ≤ n ∧ i = .int .i64 k ∧ Kept w wr ∧ ∀ j, j < k → lp es j = true ∨ Within (pr (edAt es j).f.toNat (edAt es j).t.toNat) (2 * (edAt es j).k)) (fun _ i _ => n - (intOf i).toNat)
  case atStart => exact ⟨0, by omega, rfl, Kept.refl _, fun i hi => by omega⟩
  case round =>
    obtain ⟨k, hk, rfl, K, hno⟩ := hrel
    have HNO := hid_of hno
    have KH := hid_of K
    have hnot : ∀ (x : Bool) (w : World), (Op.unary .not (.bool x)).run Tryd.prog w = .ok (.bool (!x)) w := fun _ _ => rfl
    clear hno g1
    by_cases hgo : (k : Int) < (n : Int)
    · obtain ⟨b, off, rfl, hc⟩ := (HE.out.kept K).cell (by omega)
      obtain ⟨d1, d2, d3, d4⟩ := hc k (by omega)
      obtain ⟨e1, e2, e3, e4⟩ := RGH.out.ends k (by omega)
      obtain ⟨l1, l2⟩ := RGH.out.costs k (by omega)
      have HIT : Hid ((lp es k = true ∨ Within (pr (edAt es k).f.toNat (edAt es k).t.toNat) (2 * (edAt es k).k)) → ∀ j, j < k + 1 → lp es j = true ∨ Within (pr (edAt es j).f.toNat (edAt es j).t.toNat) (2 * (edAt es j).k)) := fun hb i hi => by
        by_cases e : i = k
        · subst e; exact hb
        · exact HNO.out i (by omega)
      have MISS : Hid (¬ (lp es k = true ∨ Within (pr (edAt es k).f.toNat (edAt es k).t.toNat) (2 * (edAt es k).k)) → ¬ PairsOk es n pr) := fun hb t => hb (t k (by omega))
      unfold lp at HIT MISS
      generalize edAt es k = e at d1 d2 d3 d4 e1 e2 e3 e4 l1 l2 HIT MISS
      have CL := hid_of (isLoop_calls e)
      obtain ⟨ef, et, ec, ek⟩ := e
      simp only at d1 d2 d3 d4 e1 e2 e3 e4 l1 l2 HIT MISS
      obtain ⟨f, rfl⟩ : ∃ f : Nat, ef = (f : Int) := ⟨ef.toNat, by omega⟩
      obtain ⟨t, rfl⟩ : ∃ t : Nat, et = (t : Int) := ⟨et.toNat, by omega⟩
      simp only [Int.toNat_natCast] at HIT MISS
      have hfN : f < N := by omega
      have htN : t < N := by omega
      have WR : IntKind.i64.wrap (2 * ek) = 2 * ek := wrap_id (by omega) (by omega)
      have AM := hid_of (fun w2 (K2 : Kept wr w2) => HBH.out f t hfN htN (2 * ek) w2 (K.trans K2))
      clear hc K l1 l2
      go_upto_region 3 with fail
      generalize hW : wr.alloc (Obj.cells #[.int .i64 (f : Int), .int .i64 (t : Int), .int .i64 ec, .int .i64 ek] 86) = W3
      obtain ⟨EK, a0, a1, a2, a3, -⟩ := edge_box hW
      have EKH := hid_of EK
      clear d1 d2 d3 d4 EK hW
      go_wp2_with fail
      refine (CL.out _).mono ?_
      rintro e w4 ⟨rfl, K4⟩
      replace a0 := K4.cell a0
      replace a1 := K4.cell a1
      replace a3 := K4.cell a3
      have HK4 := hid_of (EKH.out.trans K4)
      clear K4 CL a2 EKH
      by_cases hft : f = t
      · have hq : ((f : Int) == (t : Int)) = true := by rw [beq_iff_eq]; omega
        have P := hid_of (HIT.out (.inl hq))
        have KN := hid_of (KH.out.trans HK4.out)
        clear HIT MISS a0 a1 a3 AM
        go_wp2_with fail
        go_roundw
        case rel => exact ⟨k + 1, by omega, by go_num, KN.out, P.out⟩
        case measure => simp [intOf]; omega
      · have hq : ((f : Int) == (t : Int)) = false := by rw [beq_eq_false_iff_ne]; omega
        have AC := hid_of (AM.out w4 HK4.out)
        clear AM
        go_wp2_with fail
        refine AC.out.mono ?_
        rintro e w5 ⟨K5, ⟨hw, rfl⟩ | ⟨hw, rfl⟩⟩
        · have P := hid_of (HIT.out (.inr hw))
          have KN := hid_of ((KH.out.trans HK4.out).trans K5)
          clear HIT MISS a0 a1 a3 AC K5 hw
          go_wp2_with fail
          go_roundw
          case rel => exact ⟨k + 1, by omega, by go_num, KN.out, P.out⟩
          case measure => simp [intOf]; omega
        · have P := hid_of (MISS.out (fun u => by
            rcases u with u | u
            · rw [hq] at u; cases u
            · exact hw u))
          have KN := hid_of ((KH.out.trans HK4.out).trans K5)
          clear HIT MISS a0 a1 a3 AC K5 hw
          go_wp2
          exact ⟨rfl, KN.out, .inr ⟨P.out, rfl⟩⟩
    · obtain rfl : k = n := by omega
      clear K
      go_wp2
      exact bodyPost_end (v := .tuple #[]) (by simp [results, Tryd.results69]) rfl ⟨KH.out, .inl ⟨HNO.out, rfl⟩⟩

/-- What pairWeights must do. -/
def PairW (w : World) (yo : Option Addr) (my yc : Nat) (Y : List Int) (so : Option Addr) (ns sc : Nat) (ss : Sets) (N : Nat) (pr : Nat → Nat → Int) : Prop :=
  WtsOk Y my ss ns N → ∀ w1, Kept w w1 → Calls Tryd.prog 102 #[.agg #[.slice yo my yc, .slice so ns sc], .int .i64 (N : Int)] w1 fun e w2 => ∃ c1 c2 c3, e = .returned (.func (.func 111) #[] #[.pointer (some ⟨c1, 0, none⟩), .pointer (some ⟨c2, 0, none⟩), .pointer (some ⟨c3, 0, none⟩)]) ∧ Kept w1 w2 ∧ Weighs w2 #[.pointer (some ⟨c1, 0, none⟩), .pointer (some ⟨c2, 0, none⟩), .pointer (some ⟨c3, 0, none⟩)] N pr
theorem PairW.kept {w w' : World} {yo : Option Addr} {my yc : Nat} {Y : List Int} {so : Option Addr} {ns sc : Nat} {ss : Sets} {N : Nat} {pr : Nat → Nat → Int} (h : PairW w yo my yc Y so ns sc ss N pr) (K : Kept w w') : PairW w' yo my yc Y so ns sc ss N pr := fun ok w1 K1 => h ok w1 (K.trans K1)
/-- Where there is no set. -/
theorem pairW_none (N : Nat) (hN : N ≤ 1024) (yo : Option Addr) (my yc : Nat) (Y : List Int) (so : Option Addr) (sc : Nat) (ss : Sets) (w : World) (hY : JRow w yo my yc Y) : PairW w yo my yc Y so 0 sc ss N (pairOf Y ss 0) := fun ok w1 K => by
  obtain rfl : my = N := ok.1.1
  refine (pairW0_calls my hN yo yc Y so sc w1 (hY.kept K) ok.1.2).mono fun e w2 hp => ?_
  obtain ⟨c1, c2, c3, h1, h2, h3⟩ := hp
  have e : (fun u v : Nat => zAt Y u + zAt Y v) = pairOf Y ss 0 := by
    funext u v
    simp [pairOf, sm]
  rw [e] at h3
  exact ⟨c1, c2, c3, h1, h2, h3⟩

/-- A matching of all nodes with duals that prove it cheapest. -/
def ChpOk (es : List Ed) (N n : Nat) (m : List Int) (lm : Nat) (Y : List Int) (my : Nat) (ss : Sets) (ns : Nat) : Prop :=
  MatchOk es n m lm ∧ 2 * lm = N ∧ ProveOk Y my ss ns N (PairsOk es n (pairOf Y ss ns)) (csum es m lm)

set_option maxRecDepth 100000 in
set_option linter.unusedSimpArgs false in
set_option maxHeartbeats 4000000 in
theorem cheapLook_calls (mb gb xb rb : Nat) (mo : Option Addr) (lm mc : Nat) (m : List Int) (yo : Option Addr) (my yc : Nat) (Y : List Int) (so : Option Addr) (ns sc : Nat) (ss : Sets) (N : Nat) (ao : Option Addr) (n cap : Nat) (es : List Ed) (w : World) (hm : w.cell? ⟨mb, 0, none⟩ = some (.slice mo lm mc)) (hG : GBox w gb (N : Int) ao n cap) (hx : w.cell? ⟨xb, 0, none⟩ = some (.slice yo my yc)) (hx1 : w.cell? ⟨xb, 1, none⟩ = some (.slice so ns sc)) (r0 : w.cell? ⟨rb, 0, none⟩ = some (.int .i64 0)) (rf : w.frozen? ⟨rb, 0, none⟩ = false) (h : ERow w ao n cap es) (hJ : JRow w mo lm mc m) (hY : JRow w yo my yc Y) (hS : DRow w so ns sc ss) (RG : Right N n es) (HPW : PairW w yo my yc Y so ns sc ss N (pairOf Y ss ns)) :
    Calls Tryd.prog 67 #[.pointer (some ⟨mb, 0, none⟩), .pointer (some ⟨gb, 0, none⟩), .pointer (some ⟨xb, 0, none⟩), .pointer (some ⟨rb, 0, none⟩)] w fun e w' =>
      (ChpOk es N n m lm Y my ss ns ∧ e = .returned (.tuple #[]) ∧ ∃ wx, Kept w wx ∧ w' = wx.setCell ⟨rb, 0, none⟩ (.int .i64 (csum es m lm))) ∨ (¬ ChpOk es N n m lm Y my ss ns ∧ e = .panicked [{ v := .iface 140 (.agg #[.int .i64 221]), recovered := false }] ∧ Kept w w') := by
  have hGG := hid_of hG
  obtain ⟨g0, g1⟩ := hG
  have hN := RG.nodes
  have hn := RG.edges
  have hr2 := hJ.room
  have hm2 := hJ.most
  unfold maxLen at hm2
  have HE := hid_of h
  have HJ := hid_of hJ
  have HY := hid_of hY
  have HS := hid_of hS
  have RGH := hid_of RG
  have HR0 := hid_of r0
  have HRF := hid_of rf
  have PW := hid_of HPW
  clear h hJ hY hS RG r0 rf HPW
  go_enter Tryd.func67, Tryd.ntmps67
  go_wp2_with fail
  refine (mustMatch_calls mo lm mc m N ao n cap es w HJ.out HE.out RGH.out).mono ?_
  rintro e wa ⟨K1, ⟨ok, rfl⟩ | ⟨ok, rfl⟩⟩
  rotate_left
  · have HK := hid_of K1
    clear hm g0 g1 hx hx1 K1
    go_wp2
    exact ⟨rfl, .inr ⟨fun t => ok t.1, rfl, HK.out⟩⟩
  replace hm := K1.cell hm
  replace g0 := K1.cell g0
  replace g1 := K1.cell g1
  replace hx := K1.cell hx
  replace hx1 := K1.cell hx1
  have HK := hid_of K1
  have MOK := hid_of ok
  have lmb : lm ≤ 4096 := by have := MOK.out.1.len_le; omega
  have WR1 : IntKind.i64.wrap (2 * (lm : Int)) = 2 * (lm : Int) := wrap_id (by omega) (by omega)
  clear K1 ok
  by_cases hlen : 2 * lm = N
  rotate_left
  · have q : (2 * (lm : Int) == (N : Int)) = false := by rw [beq_eq_false_iff_ne]; omega
    go_wp2_with (go_at_call 51; refine (must_no _).mono ?_; rintro e w' ⟨rfl, rfl⟩)
    exact ⟨rfl, .inr ⟨fun t => hlen t.2.1, rfl, HK.out⟩⟩
  have q : (2 * (lm : Int) == (N : Int)) = true := by rw [beq_iff_eq]; omega
  have HLEN := hid_of hlen
  have CC := hid_of (costOf_calls mo lm mc m (N : Int) N ao n cap es wa (HE.out.kept HK.out) (HJ.out.kept HK.out) RGH.out (fun i hi => MOK.out.1.rng hi) lmb)
  obtain ⟨cb1, cb2⟩ := csum_bd RGH.out (fun i hi => MOK.out.1.rng hi) lm (Nat.le_refl _)
  have cb1' : -4398046511104 ≤ csum es m lm := by omega
  have cb2' : csum es m lm ≤ 4398046511104 := by omega
  clear hlen cb1 cb2
  go_wp2_with (go_at_call 51; refine (must_ok _).mono ?_; rintro e w' ⟨rfl, rfl⟩)
  refine CC.out.mono ?_
  rintro e wb ⟨rfl, K2⟩
  replace g0 := K2.cell g0
  replace g1 := K2.cell g1
  replace hx := K2.cell hx
  replace hx1 := K2.cell hx1
  have HK2 := hid_of (HK.out.trans K2)
  have PC := hid_of (prove_calls N hN yo my yc Y so ns sc ss (csum es m lm) cb1' cb2' 69 #[.pointer (some ⟨gb, 0, none⟩)] (PairsOk es n (pairOf Y ss ns)) (pairOf Y ss ns) wb (HY.out.kept HK2.out) (HS.out.kept HK2.out) (fun _ _ => rfl)
    (fun ok w1 K => PW.out ok w1 (HK2.out.trans K))
    (fun ok xb w1 K HBB => cheB_calls xb gb (pairOf Y ss ns) N ao n cap es w1 (hGG.out.kept (HK2.out.trans K)) (HE.out.kept (HK2.out.trans K)) RGH.out HBB))
  have HCS : Hid (ChpOk es N n m lm Y my ss ns ↔ ProveOk Y my ss ns N (PairsOk es n (pairOf Y ss ns)) (csum es m lm)) := ⟨fun t => t.2.2, fun t => ⟨MOK.out, HLEN.out, t⟩⟩
  obtain ⟨S, hS⟩ : ∃ S, csum es m lm = S := ⟨_, rfl⟩
  rw [hS] at PC HCS ⊢
  have HSS := hid_of hS
  clear K2 HK CC hm hS cb1' cb2'
  have hmf : ∀ (fn : Fn) (first cap : Array Value) (w : World), (Instr.makeFunc fn first cap).run Tryd.prog w = .ok (.func fn first cap) w := fun _ _ _ _ => rfl
  go_wp2_with fail
  refine PC.out.mono ?_
  rintro e wc ⟨K3, ⟨ok, rfl⟩ | ⟨ok, rfl⟩⟩
  rotate_left
  · have HK3 := hid_of (HK2.out.trans K3)
    have P := hid_of (fun t => ok (HCS.out.1 t))
    clear K3 g0 g1 hx hx1 PC ok
    go_wp2
    exact ⟨rfl, .inr ⟨P.out, rfl, HK3.out⟩⟩
  have HK3 := hid_of (HK2.out.trans K3)
  have P := hid_of (HCS.out.2 ok)
  have r1 := HK3.out.cell HR0.out
  have rf1 := (Below.frozen (p := ⟨rb, 0, none⟩) HK3.out (lt_cell HR0.out)).trans HRF.out
  clear K3 g0 g1 hx hx1 PC ok
  go_wp2
  exact bodyPost_end (v := .tuple #[]) (by simp [results, Tryd.results67]) rfl (.inl ⟨P.out, rfl, wc, HK3.out, by rw [HSS.out]⟩)

open Classical in
/-- What Cheapest answers. -/
noncomputable def chpAns (nodes : Int) (es : List Ed) (n : Nat) (m : List Int) (lm : Nat) (Y : List Int) (my : Nat) (ss : Sets) (ns : Nat) : Int × Int :=
  if (faultOf nodes es).1 ≠ 0 then (0, (faultOf nodes es).1) else if ChpOk es nodes.toNat n m lm Y my ss ns then (csum es m lm, 0) else (0, 221)

theorem cheap_calls (nodes : Int) (ao : Option Addr) (n cap : Nat) (es : List Ed) (mo : Option Addr) (lm mc : Nat) (m : List Int) (yo : Option Addr) (my yc : Nat) (Y : List Int) (so : Option Addr) (ns sc : Nat) (ss : Sets) (w : World) (h : ERow w ao n cap es) (hJ : JRow w mo lm mc m) (hY : JRow w yo my yc Y) (hS : DRow w so ns sc ss)
    (HPW : ∀ N : Nat, N ≤ 1024 → PairW w yo my yc Y so ns sc ss N (pairOf Y ss ns)) (v code : Int) (hans : Hid (chpAns nodes es n m lm Y my ss ns = (v, code))) :
    Calls Tryd.prog 27 #[.agg #[.int .i64 nodes, .slice ao n cap], .slice mo lm mc, .agg #[.slice yo my yc, .slice so ns sc]] w fun e w' => e = .returned (.tuple #[.int .i64 v, .int .i64 code]) ∧ Kept w w' := by
  have ha := hans.out
  unfold chpAns at ha
  refine cheap_wrap nodes ao n cap es mo lm mc yo my yc so ns sc w h v code (fun hc w1 K G a1 a2 a3 r0 rf => ?_) (fun hne => ?_) (fun hc => ?_)
  · rw [if_neg (by simp [hc])] at ha
    obtain ⟨N, rfl, RG⟩ := right_of (fault_zero hc)
    rw [← h.len] at RG
    rw [Int.toNat_natCast] at ha
    refine (cheapLook_calls (w.heap.size + 1) w.heap.size (w.heap.size + 2) (w.heap.size + 3) mo lm mc m yo my yc Y so ns sc ss N ao n cap es w1 a1 G a2 a3 r0 rf (h.kept K) (hJ.kept K) (hY.kept K) (hS.kept K) RG ((HPW N RG.nodes).kept K)).mono fun e w2 hp => ?_
    rcases hp with ⟨ok, h1, wx, Kx, h2⟩ | ⟨ok, h1, h2⟩
    · rw [if_pos ok] at ha
      obtain ⟨rfl, rfl⟩ := Prod.mk.inj ha
      exact .inl ⟨rfl, h1, wx, Kx, h2⟩
    · rw [if_neg ok] at ha
      obtain ⟨rfl, rfl⟩ := Prod.mk.inj ha
      exact .inr ⟨by decide, rfl, h1, h2⟩
  · split at ha
    · exact (Prod.mk.inj ha).1.symm
    · split at ha
      · exact absurd (Prod.mk.inj ha).2.symm hne
      · exact (Prod.mk.inj ha).1.symm
  · rw [if_pos hc] at ha
    obtain ⟨rfl, rfl⟩ := Prod.mk.inj ha
    exact ⟨rfl, rfl⟩
end Go.Proofs.YtpdppjngbbkbbaaDoor

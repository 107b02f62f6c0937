/- One text of VmD, VrA, VrB, VrC. -/
import Derived.Test.YtpdppjngbbkbbaaDoorVmB
namespace Go.Proofs.YtpdppjngbbkbbaaDoor
open Go.RowKit

theorem sm_short {f : Nat → Int} {K : Nat} : ∀ N, K ≤ N → (∀ j, K ≤ j → j < N → f j = 0) → sm f N = sm f K := by
  intro N
  induction N with
  | zero => intro h _; obtain rfl : K = 0 := by omega
            rfl
  | succ N ih =>
    intro h hz
    by_cases e : K = N + 1
    · rw [e]
    · rw [sm_succ, ih (by omega) (fun j a b => hz j a (by omega)), hz N (by omega) (by omega)]; omega

/-- How many nodes beside a set bear a number, of the first k. -/
def szTo (c : Nat → Int) (S : Nat → Bool) (k j : Nat) : Int := sm (fun v => if S v then 0 else if c v = (j : Int) then 1 else 0) k
theorem szTo_succ (c : Nat → Int) (S : Nat → Bool) (k j : Nat) : szTo c S (k + 1) j = szTo c S k j + (if S k then 0 else if c k = (j : Int) then 1 else 0) := rfl
theorem szTo_bd (c : Nat → Int) (S : Nat → Bool) (k j : Nat) : 0 ≤ szTo c S k j ∧ szTo c S k j ≤ (k : Int) := by
  induction k with
  | zero => exact ⟨Int.le_refl _, Int.le_refl _⟩
  | succ k ih => rw [szTo_succ]; split <;> (try split) <;> omega

theorem odd_num {N : Nat} {es : List Ed} (hrg : ∀ e ∈ es, 0 ≤ e.f ∧ e.f < (N : Int) ∧ 0 ≤ e.t ∧ e.t < (N : Int)) {S : Nat → Bool} {c cnt : Nat → Int} (H : NumOf N (Hang es S) c cnt) : sm (fun j => szTo c S N j % 2) N = oddTo es S N N := by
  have F := H.facts (fun u v _ _ h => h.symm hrg) (fun u v x _ _ _ h k => h.trans k) (fun u _ => Way.refl u) N (Nat.le_refl _)
  have FK : ∀ k, k ≤ N → 0 ≤ cnt k ∧ cnt k ≤ (k : Int) := fun k hk => (H.facts (fun u v _ _ h => h.symm hrg) (fun u v x _ _ _ h k => h.trans k) (fun u _ => Way.refl u) k hk).1
  obtain ⟨n0, n1, n2⟩ := F
  have one : ∀ r, r < N → (∀ u, u < r → ¬ Hang es S u r) → szTo c S N (cnt r).toNat % 2 = oddAt es S N r := fun r hr hn => by
    obtain ⟨cr, -⟩ := H.new r hr hn
    have k0 := FK r (by omega)
    have key : ∀ v, v < N → (c v = (((cnt r).toNat : Nat) : Int) ↔ Hang es S r v) := fun v hv => by
      rw [show (((cnt r).toNat : Nat) : Int) = c r by omega, n2 v r hv hr]
      exact ⟨fun t => t.symm hrg, fun t => t.symm hrg⟩
    unfold oddAt szTo
    by_cases hs : S r = false
    · rw [if_pos ⟨hs, hn⟩]
      have e : sm (fun v => if S v then 0 else if c v = (((cnt r).toNat : Nat) : Int) then 1 else 0) N = cntTo (Hang es S r) N := sm_congr fun v hv => by
        by_cases hh : Hang es S r v
        · rw [ind_pos hh, hh.off hrg hs, if_pos ((key v hv).2 hh)]; rfl
        · rw [ind_neg hh, if_neg (fun t => hh ((key v hv).1 t))]; split <;> rfl
      rw [e]
    · rw [if_neg (fun t => hs t.1)]
      have e : sm (fun v => if S v then 0 else if c v = (((cnt r).toNat : Nat) : Int) then 1 else 0) N = sm (fun _ => 0) N := sm_congr fun v hv => by
        cases sv : S v with
        | true => rfl
        | false =>
          rw [if_neg (by decide), if_neg (fun t => hs ((((key v hv).1 t).symm hrg).off hrg sv))]
      rw [e, sm_zero]; rfl
  have run : ∀ k, k ≤ N → oddTo es S N k = sm (fun j => szTo c S N j % 2) (cnt k).toNat := by
    intro k
    induction k with
    | zero => intro _; rw [H.zero]; rfl
    | succ k ih =>
      intro hk
      have i := ih (by omega)
      have k0 := FK k (by omega)
      rw [oddTo_succ, i]
      by_cases hx : ∃ u, u < k ∧ Hang es S u k
      · obtain ⟨u, hu, hr⟩ := hx
        rw [(H.old k (by omega) u hu hr).2]
        have : oddAt es S N k = 0 := by unfold oddAt; rw [if_neg (fun t => t.2 u hu hr)]
        rw [this]; omega
      · have hn : ∀ u, u < k → ¬ Hang es S u k := fun u hu hr => hx ⟨u, hu, hr⟩
        rw [(H.new k (by omega) hn).2, show (cnt k + 1).toNat = (cnt k).toNat + 1 by omega, sm_succ, one k (by omega) hn]
  rw [run N (Nat.le_refl _)]
  refine sm_short N (by omega) fun j hj hjN => ?_
  have e : szTo c S N j = 0 := by
    unfold szTo
    rw [sm_congr (g := fun _ => 0) (fun v hv => by
      have := n1 v hv
      split
      · rfl
      · rw [if_neg (by omega)]), sm_zero]
  rw [e]; rfl
end Go.Proofs.YtpdppjngbbkbbaaDoor
namespace Go.Proofs.YtpdppjngbbkbbaaDoor
open Go.RowKit

theorem rest_take {es : List Ed} {S : Nat → Bool} {k : Nat} (hk : k < es.length) : rest (es.take (k + 1)) S = rest (es.take k) S ++ (bif !S (edAt es k).f.toNat && !S (edAt es k).t.toNat then [edAt es k] else []) := by
  have e : es[k] = edAt es k := by simp [edAt, List.getD, hk]
  unfold rest
  rw [List.take_succ_eq_append_getElem hk, List.filter_append, e]
  cases h : (!S (edAt es k).f.toNat && !S (edAt es k).t.toNat) <;> simp [h]
theorem rest_len (es : List Ed) (S : Nat → Bool) (k : Nat) : (rest (es.take k) S).length ≤ k := by
  unfold rest
  exact Nat.le_trans (List.length_filter_le _ _) (by rw [List.length_take]; omega)

theorem fault_rest {N n : Nat} {es : List Ed} (RG : Right N n es) (S : Nat → Bool) : faultOf (N : Int) (rest es S) = (0, 0) := by
  have h1 := RG.nodes
  have h2 := RG.edges
  have h3 := RG.len
  have hl : (rest es S).length ≤ es.length := List.length_filter_le _ _
  have run : ∀ k, k ≤ (rest es S).length → faultTo (N : Int) (rest es S) k = (0, 0) := by
    intro k
    induction k with
    | zero => intro _; rfl
    | succ k ih =>
      intro hk
      refine fault_pass (N : Int) (rest es S) k (ih (by omega)) ?_
      obtain ⟨i, hi, e⟩ := memW_edAt (rest_mem.1 (mem_at (es := rest es S) (i := k) (by omega))).1
      rw [← e]
      have a := RG.ends i (by omega)
      have b := RG.caps i (by omega)
      have c := RG.costs i (by omega)
      unfold badOf
      rw [if_neg (by omega), if_neg (by omega)]
  unfold faultOf
  rw [if_neg (by omega)]
  exact run _ (Nat.le_refl _)

/-- What the region that appends reads. -/
structure SeenE (nb gb b o : Nat) (x : Ed) (sl gl : Value) (w : World) : Prop where
  s0 : w.cell? ⟨nb, 1, none⟩ = some sl
  s1 : w.cell? ⟨gb, 1, none⟩ = some gl
  s2 : w.cell? ⟨b, o, none⟩ = some (.int .i64 x.f)
  s3 : w.cell? ⟨b, o + 1, none⟩ = some (.int .i64 x.t)
  s4 : w.cell? ⟨b, o + 2, none⟩ = some (.int .i64 x.c)
  s5 : w.cell? ⟨b, o + 3, none⟩ = some (.int .i64 x.k)
theorem SeenE.kept {nb gb b o : Nat} {x : Ed} {sl gl : Value} {w w' : World} (h : SeenE nb gb b o x sl gl w) (K : Kept w w') : SeenE nb gb b o x sl gl w' := ⟨K.cell h.s0, K.cell h.s1, K.cell h.s2, K.cell h.s3, K.cell h.s4, K.cell h.s5⟩

set_option maxRecDepth 100000 in
set_option linter.unusedSimpArgs false in
set_option maxHeartbeats 4000000 in
theorem oddR_calls (N : Nat) (ao : Option Addr) (n cap : Nat) (es : List Ed) (co : Option Addr) (L cc : Nat) (c : List Int) (w : World) (h : ERow w ao n cap es) (hJ : JRow w co L cc c) (RG : Right N n es) (S : Nat → Bool) (hS : inTo c L = S) :
    Calls Tryd.prog 65 #[.agg #[.int .i64 (N : Int), .slice ao n cap], .slice co L cc] w fun r w' => r = .returned (.int .i64 (oddTo es S N N)) ∧ Kept w w' := by
  obtain ⟨i0, hi, hz0, hz1, hz2⟩ := infoE
  have hN := RG.nodes
  have hn := RG.edges
  have hr1 := h.room
  have hm1 := h.most
  unfold maxLen at hm1
  have hlen := hid_of h.len
  have hmk : ∀ w : World, (Instr.makeSlice 25 (.int .i64 (N : Int)) (.int .i64 (N : Int))).run Tryd.prog w = .ok (.slice (some ⟨w.heap.size, 0, none⟩) N N) (w.alloc (.cells (madeCells #[.int .i64 0] N) 3)) :=
    fun w => run_make_row' 25 3 (.int .i64 0) 8 Tryd.underlying25 infoJ0 rfl .i64 .i64 N (by omega) (by omega) w
  have KW : Kept w (w.alloc (Obj.cells #[.int .i64 (N : Int), .slice ao n cap] 24)) := (Kept.refl w).alloc _
  have w0 : (w.alloc (Obj.cells #[.int .i64 (N : Int), .slice ao n cap] 24)).cell? ⟨w.heap.size, 0, none⟩ = some (.int .i64 (N : Int)) := by simp [go_sem]
  have w1 : (w.alloc (Obj.cells #[.int .i64 (N : Int), .slice ao n cap] 24)).cell? ⟨w.heap.size, 1, none⟩ = some (.slice ao n cap) := by simp [go_sem]
  have hnot : ∀ (x : Bool) (w : World), (Op.unary .not (.bool x)).run Tryd.prog w = .ok (.bool (!x)) w := fun _ _ => rfl
  have HE := hid_of h
  have HJ := hid_of hJ
  have RGH := hid_of RG
  have HS := hid_of hS
  clear h hJ RG hS
  go_enter Tryd.func65, Tryd.ntmps65
  go_upto_region 1 with fail
  generalize w.alloc (Obj.cells #[.int .i64 (N : Int), .slice ao n cap] 24) = W1 at KW w0 w1 ⊢
  have KWH := hid_of KW
  have W0H := hid_of w0
  have W1H := hid_of w1
  obtain ⟨gb, hgb⟩ : ∃ gb, w.heap.size = gb := ⟨_, rfl⟩
  have lgb : gb < W1.heap.size := by rw [← hgb]; exact lt_cell w1
  rw [hgb] at W0H W1H w0 w1
  have KM : Kept W1 (W1.alloc (Obj.cells #[.int .i64 (N : Int), .slice none 0 0] 24)) := (Kept.refl W1).alloc _
  have N0 : NetAt (W1.alloc (Obj.cells #[.int .i64 (N : Int), .slice none 0 0] 24)) W1.heap.size W1.heap.size (N : Int) (rest (es.take 0) S) := ⟨by simp [go_sem], ⟨none, 0, by simp [go_sem, rest], World.ownsRow_nil _ _ _ _, by simp [Value.ownBlock]⟩, by simp [go_sem], by simp [go_sem], Nat.le_refl _, fun q => by simp [go_sem]⟩
  have KMH := hid_of KM
  have NH := hid_of N0
  go_upto_region 2 with fail
  simp only [hgb]
  obtain ⟨nb, hnb⟩ : ∃ nb, W1.heap.size = nb := ⟨_, rfl⟩
  rw [hnb] at NH lgb
  have HNB := hid_of hnb
  simp only [hnb]
  clear hnb
  generalize W1.alloc (Obj.cells #[.int .i64 (N : Int), .slice none 0 0] 24) = W2 at KMH NH ⊢
  clear KM N0 w0 w1 KW
  go_wp2_with fail
  go_loopw [6] (fun i wr => ∃ (k : Nat), k ≤ n ∧ i = .int .i64 k ∧ Kept W1 wr ∧ NetAt wr nb nb (N : Int) (rest (es.take k) S)) (fun i _ => n - (intOf i).toNat)
  case atStart => exact ⟨0, by omega, rfl, KMH.out, NH.out⟩
  case round =>
    obtain ⟨k, hk, rfl, K, NR⟩ := hrel
    have NRH := hid_of NR
    have KH := hid_of K
    have w1 := K.cell W1H.out
    clear NR
    by_cases hgo : (k : Int) < (n : Int)
    · obtain ⟨b, off, rfl, hc⟩ := (HE.out.kept (KWH.out.trans K)).cell (by omega)
      obtain ⟨d1, d2, d3, d4⟩ := hc k (by omega)
      obtain ⟨e1, e2, e3, e4⟩ := RGH.out.ends k (by omega)
      have RT := hid_of (rest_take (es := es) (S := S) (k := k) (by rw [← hlen.out]; omega))
      have RL := hid_of (rest_len es S k)
      have lb : b < W1.heap.size := by
        obtain ⟨b', off', e', hc'⟩ := (HE.out.kept KWH.out).cell (by omega)
        have q := (hc' k (by omega)).1
        simp only [Option.some.injEq, Addr.mk.injEq] at e'
        rw [← e'.1] at q
        exact lt_cell q
      generalize rest (es.take k) S = R at NRH RT RL
      generalize hxe : edAt es k = xe at d1 d2 d3 d4 e1 e2 e3 e4 RT
      clear hxe
      obtain ⟨xf, xt, xc, xk⟩ := xe
      simp only at d1 d2 d3 d4 e1 e2 e3 e4 RT
      obtain ⟨f, rfl⟩ : ∃ f : Nat, xf = (f : Int) := ⟨xf.toNat, by omega⟩
      obtain ⟨t, rfl⟩ : ∃ t : Nat, xt = (t : Int) := ⟨xt.toNat, by omega⟩
      simp only [Int.toNat_natCast] at RT
      obtain ⟨bf, hbf⟩ : ∃ x, S f = x := ⟨_, rfl⟩
      obtain ⟨bt, hbt⟩ : ∃ x, S t = x := ⟨_, rfl⟩
      have CF := hid_of (fun w' (K' : Kept W1 w') => hasR_calls co L cc c f bf (hid_of ((congrFun HS.out f).trans hbf)) w' (HJ.out.kept (KWH.out.trans K')))
      have CT := hid_of (fun w' (K' : Kept W1 w') => hasR_calls co L cc c t bt (hid_of ((congrFun HS.out t).trans hbt)) w' (HJ.out.kept (KWH.out.trans K')))
      rw [hbf, hbt] at RT
      clear hbf hbt hc K
      cases bf with
      | true =>
        have P : Hid (rest (es.take (k + 1)) S = R) := by show _ = _; rw [RT.out]; simp
        clear RT CT
        go_wp2_with fail
        refine (CF.out _ KH.out).mono ?_
        rintro r w5 ⟨rfl, K5⟩
        have KN := hid_of (KH.out.trans K5)
        have NN : Hid (NetAt w5 nb nb (N : Int) (rest (es.take (k + 1)) S)) := by show NetAt _ _ _ _ _; rw [P.out]; exact NRH.out.keep K5
        clear K5 CF d1 d2 d3 d4 w1
        go_wp2_with fail
        go_roundw
        case rel => exact ⟨k + 1, by omega, by go_num, KN.out, NN.out⟩
        case measure => simp [intOf]; omega
      | false =>
        go_wp2_with fail
        refine (CF.out _ KH.out).mono ?_
        rintro r w5 ⟨rfl, K5⟩
        have K5H := hid_of (KH.out.trans K5)
        have N5 := hid_of (NRH.out.keep K5)
        replace d1 := K5.cell d1
        replace d2 := K5.cell d2
        replace d3 := K5.cell d3
        replace d4 := K5.cell d4
        replace w1 := K5.cell w1
        clear K5 CF NRH KH
        cases bt with
        | true =>
          have P : Hid (rest (es.take (k + 1)) S = R) := by show _ = _; rw [RT.out]; simp
          clear RT
          go_wp2_with fail
          refine (CT.out _ K5H.out).mono ?_
          rintro r w6 ⟨rfl, K6⟩
          have KN := hid_of (K5H.out.trans K6)
          have NN : Hid (NetAt w6 nb nb (N : Int) (rest (es.take (k + 1)) S)) := by show NetAt _ _ _ _ _; rw [P.out]; exact N5.out.keep K6
          clear K6 CT d1 d2 d3 d4 w1
          go_wp2_with fail
          go_roundw
          case rel => exact ⟨k + 1, by omega, by go_num, KN.out, NN.out⟩
          case measure => simp [intOf]; omega
        | false =>
          have P : Hid (rest (es.take (k + 1)) S = R ++ [⟨(f : Int), (t : Int), xc, xk⟩]) := by show _ = _; rw [RT.out]; simp
          clear RT
          go_upto_region 6 with (refine (CT.out _ K5H.out).mono ?_; rintro r w6 ⟨rfl, K6⟩)
          have K6H := hid_of (K5H.out.trans K6)
          have N6 := hid_of (N5.out.keep K6)
          have SE0 : SeenE nb gb b (off + k * 4) ⟨(f : Int), (t : Int), xc, xk⟩ (.slice none 0 0) (.slice (some ⟨b, off, none⟩) n cap) w6 → True := fun _ => trivial
          clear SE0
          replace d1 := K6.cell d1
          replace d2 := K6.cell d2
          replace d3 := K6.cell d3
          replace d4 := K6.cell d4
          replace w1 := K6.cell w1
          clear K6 CT N5 K5H
          obtain ⟨so, sc, c1, O, hp⟩ := N6.out.c1
          obtain ⟨len, hlR⟩ : ∃ len, R.length = len := ⟨_, rfl⟩
          have HLR := hid_of hlR
          have RLH : Hid (len ≤ 4096) := by have := RL.out; show len ≤ 4096; omega
          rw [hlR] at c1 O hp
          have SE : SeenE nb gb b (off + k * 4) ⟨(f : Int), (t : Int), xc, xk⟩ (.slice so len sc) (.slice (some ⟨b, off, none⟩) n cap) w6 := ⟨c1, w1, d1, d2, d3, d4⟩
          have bB : nb ≤ w6.heap.size := by have := HNB.out; have := K6H.out.size; omega
          have lb' : b < nb := by have := HNB.out; omega
          have STEP : Hid (∀ (WX : World), Kept w6 WX → (∀ j u', (ecells ⟨(f : Int), (t : Int), xc, xk⟩)[j]? = some u' → (WX.alloc (Obj.cells #[.int .i64 (f : Int), .int .i64 (t : Int), .int .i64 xc, .int .i64 xk] 86)).cell? ((⟨WX.heap.size, 0, none⟩ : Addr).add j) = some u') ∧ (WX.alloc (Obj.cells #[.int .i64 (f : Int), .int .i64 (t : Int), .int .i64 xc, .int .i64 xk] 86)).ownsRow nb 86 4 (.slice so len sc) len (evals R) ∧ nb ≤ WX.heap.size ∧
              ∀ w1 g cap3, w1.ownsRow nb 86 4 (.slice (some ⟨g, 0, none⟩) (len + 1) cap3) (len + 1) (evals R ++ ecells ⟨(f : Int), (t : Int), xc, xk⟩) → (WX.alloc (Obj.cells #[.int .i64 (f : Int), .int .i64 (t : Int), .int .i64 xc, .int .i64 xk] 86)).grownBy w1 (Value.slice so len sc).ownBlock → ((Value.slice so len sc).ownBlock = some g ∨ g = WX.heap.size + 1) →
              SeenE nb gb b (off + k * 4) ⟨(f : Int), (t : Int), xc, xk⟩ (.slice so len sc) (.slice (some ⟨b, off, none⟩) n cap) w1 ∧ w1.frozen? ⟨nb, 1, none⟩ = false ∧ NetAt (w1.setCell ⟨nb, 1, none⟩ (.slice (some ⟨g, 0, none⟩) (len + 1) cap3)) nb nb (N : Int) (R ++ [⟨(f : Int), (t : Int), xc, xk⟩]) ∧ Kept W1 (w1.setCell ⟨nb, 1, none⟩ (.slice (some ⟨g, 0, none⟩) (len + 1) cap3))) := fun WX KX => by
            have OX := (ownsK O KX).alloc (Obj.cells #[.int .i64 (f : Int), .int .i64 (t : Int), .int .i64 xc, .int .i64 xk] 86)
            refine ⟨cell_new4 WX 86 ⟨(f : Int), (t : Int), xc, xk⟩, OX, Nat.le_trans bB KX.size, fun w1 g cap3 own grow ha => ?_⟩
            have NX := N6.out.keep KX
            have SX := (SE.kept KX).kept ((Kept.refl WX).alloc (Obj.cells #[.int .i64 (f : Int), .int .i64 (t : Int), .int .i64 xc, .int .i64 xk] 86))
            obtain ⟨ao', cap', ev, q1, q2, q3, q4⟩ := net_grow (wr := WX) (o := Obj.cells #[.int .i64 (f : Int), .int .i64 (t : Int), .int .i64 xc, .int .i64 xk] 86) (x := ⟨(f : Int), (t : Int), xc, xk⟩) HLR.out.symm NX.c0 (KX.cell c1) hp NX.z0 NX.z1 NX.ge NX.zz own grow (by
              rcases ha with t | t
              · exact .inl (by rw [t]; rfl)
              · exact .inr (by rw [t]; rfl))
            have far : ∀ q, q < nb → some q ≠ (Value.slice so len sc).ownBlock := fun q hq e => by
              have := (O.lt q e.symm).1
              omega
            refine ⟨⟨q1, grow.cell SX.s1 (far gb lgb), grow.cell SX.s2 (far b lb'), grow.cell SX.s3 (far b lb'), grow.cell SX.s4 (far b lb'), grow.cell SX.s5 (far b lb')⟩, q2, q3, ?_⟩
            have KE := K6H.out.trans KX
            exact (Below.grown (KE.alloc _) grow (KE.alloc _).size (fun j hj => by have := (O.lt j hj).1; have := HNB.out; omega)).setCell (p := ⟨nb, 1, none⟩) (by have := HNB.out; simp only; omega) (.slice (some ⟨g, 0, none⟩) (len + 1) cap3)
          have fz : (w6.drewN 1).frozen? ⟨nb, 1, none⟩ = false := N6.out.z1
          have hkn : (k : Int) < (n : Int) := hgo
          clear d1 d2 d3 d4 w1 c1 O hp hlR
          refine Ord.regionZ 10 [(0, 0), (1, 1), (2, 0), (3, 1), (4, 0), (5, 0), (6, 1), (7, 2), (8, 2), (9, 0), (10, 3)] (SeenE nb gb b (off + k * 4) ⟨(f : Int), (t : Int), xc, xk⟩ (.slice so len sc) (.slice (some ⟨b, off, none⟩) n cap)) (by kernel_rfl) (by kernel_rfl) (by kernel_rfl) (by kernel_rfl) (fun _ _ d _ _ h => by cases d <;> exact h) (SE.kept ((Kept.refl _).drewN _)) ?_
          repeat
            refine Ord.stepZ rfl (fun Ko hK => ?_)
            first
              | (simp only [Ord.bodyZ, Ord.body]
                 go_simp
                 first
                   | (refine hK _ _ ?_; clear hK Ko)
                   | (refine ⟨_, fun w' hS => (by have c0 := hS.s0; have c1 := hS.s1; have c2 := hS.s2; have c3 := hS.s3; have c4 := hS.s4; have c5 := hS.s5; simp only [c0, c1, c2, c3, c4, c5, Result.andThen]; rfl), hK _ _ ?_⟩; clear hK Ko)
                   | (refine ⟨SE.kept ((Kept.refl w6).drewN 1 |>.alloc _), hK _ _ ?_⟩; clear hK Ko))
          refine Ord.stepZ rfl (fun Ko hK => ?_)
          simp only [Ord.bodyZ, Ord.body, List.getElem_toArray, List.getElem_cons_succ, List.getElem_cons_zero]
          rw [if_pos (show Region.wanted _ _ = true from rfl)]
          obtain ⟨s1, s2, s3, s4⟩ := STEP.out (w6.drewN 1) ((Kept.refl w6).drewN 1)
          have rl := RLH.out
          refine wp_append_lies _ (.tmp 44) (.tmp 50) 22 (by rfl) nb 86 i0 _ 4 32 Tryd.underlying22 hi hz0 hz1 hz2 rfl (by decide) _ _ _ (by rfl) s2 ⟨(w6.drewN 1).heap.size, 0, none⟩ 1 1 (ecells ⟨(f : Int), (t : Int), xc, xk⟩) (by rfl) rfl s1 (ecells_one _) (by decide) (by unfold maxLen; omega) (by omega) (Nat.le_trans s3 (by simp)) ((w6.drewN 1).heap.size + 1) (by simp) ?_
          intro g cap3 w7 own grow hat hlt
          obtain ⟨q0, q1, q2, q3⟩ := s4 w7 g cap3 own grow hat
          refine ⟨q0, hK _ _ ?_⟩
          have Q2 := hid_of q2
          have Q3 := hid_of q3
          have cq := q0.s0
          clear hK Ko s1 s2 s3 s4 rl own grow hat hlt q2 q3 STEP SE fz
          repeat
            refine Ord.stepZ rfl (fun Ko hK => ?_)
            simp only [Ord.bodyZ, Ord.body]
            go_simp
            (refine hK _ _ ?_; clear hK Ko)
          refine Ord.doneZ ?_
          have NN : Hid (NetAt (w7.setCell ⟨nb, 1, none⟩ (.slice (some ⟨g, 0, none⟩) (len + 1) cap3)) nb nb (N : Int) (rest (es.take (k + 1)) S)) := by show NetAt _ _ _ _ _; rw [P.out]; exact Q2.out
          clear Q2 q0 cq q1
          go_wp2_with fail
          go_roundw
          case rel => exact ⟨k + 1, by omega, by go_num, Q3.out, NN.out⟩
          case measure => simp [intOf]; omega
    · obtain rfl : k = n := by omega
      have ER : Hid (rest (es.take k) S = rest es S) := by show _ = _; rw [List.take_of_length_le (by rw [← hlen.out]; omega)]
      have NF := hid_of (show NetAt wr nb nb (N : Int) (rest es S) by rw [← ER.out]; exact NRH.out)
      obtain ⟨so, sc, c1, O, hp⟩ := NF.out.c1
      have c0 := NF.out.c0
      have hrg := rest_rg RGH.out.mem S
      have PC := hid_of (partsR_calls N hN so (rest es S).length sc (rest es S) wr (ERow.of_owns O) (hid_of (fault_rest RGH.out S)) (hid_of hrg))
      obtain ⟨len, hl⟩ : ∃ len, (rest es S).length = len := ⟨_, rfl⟩
      rw [hl] at c1 PC
      clear O hp hl hrg NRH ER K NH KMH
      go_wp2_with fail
      refine PC.out.mono ?_
      rintro r wp ⟨g, cl, cnt, rfl, IG, NUM, K2⟩
      have KP := hid_of (KH.out.trans K2)
      have IGH := hid_of IG
      have ON := hid_of (odd_num RGH.out.mem (show NumOf N (Hang es S) cl cnt from NUM))
      have CB : Hid (∀ v, v < N → 0 ≤ cl v ∧ cl v < (N : Int)) := fun v hv => by
        have F := (show NumOf N (Hang es S) cl cnt from NUM).facts (fun u v _ _ h => h.symm RGH.out.mem) (fun u v x _ _ _ h k => h.trans k) (fun u _ => Way.refl u) N (Nat.le_refl _)
        have := F.2.1 v hv
        have := F.1.2
        omega
      have w0 := KP.out.cell W0H.out
      clear K2 PC IG NUM c0 c1 KH w1
      have KM : Kept wp (wp.alloc (.cells (madeCells #[.int .i64 0] N) 3)) := (Kept.refl wp).alloc _
      have I0 : IntsAt (wp.alloc (.cells (madeCells #[.int .i64 0] N) 3)) wp.heap.size N (szTo cl S 0) := World.rowIs.congr (World.rowIs_made wp (.int .i64 0) N 3) (fun i _ => rfl)
      obtain ⟨q, hq⟩ : ∃ q, wp.heap.size = q := ⟨_, rfl⟩
      have hwq : Hid (wp.heap.size ≤ q) := by show wp.heap.size ≤ q; omega
      have hgq : g < q := by rw [← hq]; exact IGH.out.lt
      rw [hq] at I0
      have KMH := hid_of KM
      have IH := hid_of I0
      go_upto_region 9 with fail
      generalize wp.alloc (.cells (madeCells #[.int .i64 0] N) 3) = W5 at KMH IH ⊢
      clear KM I0 hq hmk w0
      go_wp2_with fail
      go_loopw [10] (fun i w2 => ∃ (v : Nat), v ≤ N ∧ i = .int .i64 v ∧ Kept wp w2 ∧ IntsAt w2 q N (szTo cl S v)) (fun i _ => N - (intOf i).toNat)
      case atStart => exact ⟨0, by omega, rfl, KMH.out, IH.out⟩
      case round =>
        obtain ⟨v, hv, rfl, K, IR⟩ := hrel
        have IRH := hid_of IR
        have KH := hid_of K
        have w0 := (KP.out.trans K).cell W0H.out
        clear IR IH KMH K
        by_cases hgo2 : (v : Int) < (N : Int)
        · have hvN : v < N := by omega
          have CS := hid_of (fun w' (K' : Kept wp w') => hasR_calls co L cc c v (S v) (hid_of (congrFun HS.out v)) w' (HJ.out.kept (KWH.out.trans (KP.out.trans K'))))
          have SU := hid_of (szTo_succ cl S v)
          obtain ⟨sv, hsv⟩ : ∃ x, S v = x := ⟨_, rfl⟩
          have SV := hid_of hsv
          have CS2 : Hid (∀ w' (K' : Kept wp w'), Calls Tryd.prog 96 #[.slice co L cc, .int .i64 (v : Int)] w' fun r w'' => r = .returned (.bool sv) ∧ Kept w' w'') := fun w' K' => by rw [← SV.out]; exact CS.out w' K'
          clear CS hsv
          cases sv with
          | true =>
            have IN : Hid (∀ w', Kept wr w' → IntsAt w' q N (szTo cl S (v + 1))) := fun w' K' => (IRH.out.kept K').congr (fun j _ => by rw [SU.out j, SV.out]; simp)
            clear SU
            go_wp2_with fail
            refine (CS2.out _ KH.out).mono ?_
            rintro r w6 ⟨rfl, K6⟩
            have KN := hid_of (KH.out.trans K6)
            have I6 := hid_of (IN.out w6 K6)
            clear K6 CS2 IN w0
            go_wp2_with fail
            go_roundw
            case rel => exact ⟨v + 1, by omega, by go_num, KN.out, I6.out⟩
            case measure => simp [intOf]; omega
          | false =>
            obtain ⟨b1, b2⟩ := CB.out v hvN
            obtain ⟨cv, hcv⟩ : ∃ cv : Nat, cl v = (cv : Int) := ⟨(cl v).toNat, by omega⟩
            have hcN : cv < N := by omega
            obtain ⟨x1, x2⟩ := szTo_bd cl S v cv
            have HCV := hid_of hcv
            go_wp2_with fail
            refine (CS2.out _ KH.out).mono ?_
            rintro r w6 ⟨rfl, K6⟩
            have KN6 := hid_of (KH.out.trans K6)
            have I6 := hid_of (IRH.out.kept K6)
            have pc := (IGH.out.kept KN6.out).cell hvN
            rw [HCV.out] at pc
            have qc := I6.out.cell hcN
            have qf := World.rowIs.frozen I6.out cv
            obtain ⟨x, hx⟩ : ∃ x, szTo cl S v cv = x := ⟨_, rfl⟩
            rw [hx] at qc x1 x2
            have WR : IntKind.i64.wrap (x + 1) = x + 1 := wrap_id (by omega) (by omega)
            have IN : Hid (IntsAt (w6.setCell ⟨q, cv, none⟩ (.int .i64 (x + 1))) q N (szTo cl S (v + 1))) := (I6.out.set cv (x + 1)).congr (fun j _ => by
              show Value.int .i64 (if j = cv then x + 1 else szTo cl S v j) = .int .i64 (szTo cl S (v + 1) j)
              rw [SU.out j, SV.out, HCV.out]
              by_cases e : j = cv
              · subst e; rw [if_pos rfl, hx]; simp
              · rw [if_neg e, if_neg (by decide), if_neg (by omega)]; simp)
            have KN : Hid (Kept wp (w6.setCell ⟨q, cv, none⟩ (.int .i64 (x + 1)))) := KN6.out.setCell (p := ⟨q, cv, none⟩) hwq.out _
            clear K6 CS2 w0 SU hcv HCV hx I6 KN6 b1 b2 x1 x2
            go_wp2_with fail
            go_roundw
            case rel => exact ⟨v + 1, by omega, by go_num, KN.out, IN.out⟩
            case measure => simp [intOf]; omega
        · obtain rfl : v = N := by omega
          go_wp2_with fail
          go_loopw [11, 12] (fun s i w2 => ∃ (j : Nat), j ≤ v ∧ i = .int .i64 j ∧ s = .int .i64 (sm (fun j => szTo cl S v j % 2) j) ∧ wr = w2) (fun _ i _ => v - (intOf i).toNat)
          case atStart => exact ⟨0, by omega, rfl, rfl, rfl⟩
          case round =>
            obtain ⟨j, hj, rfl, rfl, rfl⟩ := hrel
            by_cases hgo3 : (j : Int) < (v : Int)
            · have qc := IRH.out.cell (show j < v by omega)
              obtain ⟨x1, x2⟩ := szTo_bd cl S v j
              have SU := hid_of (sm_succ (fun j => szTo cl S v j % 2) j)
              have SB := sm_bd (f := fun j => szTo cl S v j % 2) (k := j) (B := 1) (fun i _ => ⟨by show -1 ≤ szTo cl S v i % 2; omega, by show szTo cl S v i % 2 ≤ 1; omega⟩)
              obtain ⟨y1, y2⟩ := SB
              generalize sm (fun j => szTo cl S v j % 2) j = s at SU y1 y2 ⊢
              generalize szTo cl S v j = x at qc SU x1 x2
              have TM : x.tmod 2 = x % 2 := Int.tmod_eq_emod_of_nonneg x1
              have WR : IntKind.i64.wrap (s + x % 2) = s + x % 2 := wrap_id (by omega) (by omega)
              have WR2 : IntKind.i64.wrap (x % 2) = x % 2 := wrap_id (by omega) (by omega)
              go_wp2_with fail
              go_roundw
              case rel => exact ⟨j + 1, by omega, by go_num, by rw [SU.out], by trivial⟩
              case measure => simp [intOf]; omega
            · obtain rfl : j = v := by omega
              have KN := hid_of (KWH.out.trans (KP.out.trans KH.out))
              rw [ON.out]
              go_wp2
              go_ret
              exact ⟨rfl, KN.out⟩
end Go.Proofs.YtpdppjngbbkbbaaDoor
namespace Go.Proofs.YtpdppjngbbkbbaaDoor
open Go.RowKit

theorem larAns_mat {nodes : Int} {es : List Ed} {n : Nat} {m : List Int} {lm : Nat} {x : List Int} {lx : Nat} (h : matAns nodes es n m lm ≠ 0) : larAns nodes es n m lm x lx = (0, matAns nodes es n m lm) := by
  unfold matAns at h ⊢
  unfold larAns
  split
  · rfl
  · rename_i t
    rw [if_neg t] at h
    split at h
    · omega
    · rename_i u
      rw [if_neg (fun v => u v.1), if_neg u]

/-- Rising, its answer told ahead. -/
theorem rising_yes (co : Option Addr) (L cc : Nat) (c : List Int) (e : Int) (w : World) (hJ : JRow w co L cc c) (h : RiseTo c e L) : Calls Tryd.prog 54 #[.slice co L cc, .int .i64 e] w fun r w' => r = .returned (.bool true) ∧ Kept w w' :=
  (risingR_calls co L cc c e w hJ).mono fun _ _ hp => ⟨hp.2.elim (fun t => t.2) (fun t => absurd h t.1), hp.1⟩
theorem rising_no (co : Option Addr) (L cc : Nat) (c : List Int) (e : Int) (w : World) (hJ : JRow w co L cc c) (h : ¬ RiseTo c e L) : Calls Tryd.prog 54 #[.slice co L cc, .int .i64 e] w fun r w' => r = .returned (.bool false) ∧ Kept w w' :=
  (risingR_calls co L cc c e w hJ).mono fun _ _ hp => ⟨hp.2.elim (fun t => absurd t.1 h) (fun t => t.2), hp.1⟩

set_option maxRecDepth 100000 in
set_option linter.unusedSimpArgs false in
set_option maxHeartbeats 4000000 in
theorem largestR_calls (nodes : Int) (ao : Option Addr) (n cap : Nat) (es : List Ed) (mo : Option Addr) (lm mc : Nat) (m : List Int) (xo : Option Addr) (lx xc : Nat) (x : List Int) (w : World) (h : ERow w ao n cap es) (hJ : JRow w mo lm mc m) (hX : JRow w xo lx xc x) (v code : Int) (hans : Hid (larAns nodes es n m lm x lx = (v, code))) :
    Calls Tryd.prog 24 #[.agg #[.int .i64 nodes, .slice ao n cap], .slice mo lm mc, .slice xo lx xc] w fun e w' => e = .returned (.tuple #[.int .i64 v, .int .i64 code]) ∧ Kept w w' := by
  have hnot : ∀ (x : Bool) (w : World), (Op.unary .not (.bool x)).run Tryd.prog w = .ok (.bool (!x)) w := fun _ _ => rfl
  obtain ⟨z, A3⟩ : ∃ z, matAns nodes es n m lm = z := ⟨_, rfl⟩
  have hr1 := hJ.room
  have hm1 := hJ.most
  have hr2 := hX.room
  have hm2 := hX.most
  unfold maxLen at hm1 hm2
  have KW : Kept w (w.alloc (Obj.cells #[.int .i64 nodes, .slice ao n cap] 24)) := (Kept.refl w).alloc _
  have w0 : (w.alloc (Obj.cells #[.int .i64 nodes, .slice ao n cap] 24)).cell? ⟨w.heap.size, 0, none⟩ = some (.int .i64 nodes) := by simp [go_sem]
  have w1 : (w.alloc (Obj.cells #[.int .i64 nodes, .slice ao n cap] 24)).cell? ⟨w.heap.size, 1, none⟩ = some (.slice ao n cap) := by simp [go_sem]
  have HE := hid_of h
  have HJ := hid_of hJ
  have HX := hid_of hX
  have HA3 := hid_of A3
  clear h hJ hX A3
  go_enter Tryd.func24, Tryd.ntmps24
  go_wp2_with fail
  generalize w.alloc (Obj.cells #[.int .i64 nodes, .slice ao n cap] 24) = W1 at KW w0 w1 ⊢
  refine (matchingR_calls nodes ao n cap es mo lm mc m W1 (HE.out.kept KW) (HJ.out.kept KW) z HA3).mono ?_
  rintro e wa ⟨rfl, K1⟩
  have K := hid_of (KW.trans K1)
  replace w0 := K1.cell w0
  replace w1 := K1.cell w1
  clear K1 KW
  by_cases hz : z = 0
  rotate_left
  · have e := hans.out
    rw [larAns_mat (by rw [HA3.out]; exact hz), HA3.out] at e
    obtain ⟨rfl, rfl⟩ := Prod.mk.inj e
    have q : (z != 0) = true := by simpa using hz
    clear hz e hans HA3 w0 w1
    go_wp2
    go_ret2
    exact ⟨rfl, K.out⟩
  subst hz
  obtain ⟨hf, MOK⟩ := matAns_ok HA3.out
  obtain ⟨N, rfl, RG⟩ := right_of (fault_zero hf)
  rw [← HE.out.len] at RG
  have hN := RG.nodes
  have hn := RG.edges
  have RGH := hid_of RG
  have MH := hid_of MOK
  have lmb : lm ≤ 4096 := by have := MOK.1.len_le; omega
  have YES : Hid (LarOk es N n m lm x lx → v = (lm : Int) ∧ code = 0) := fun t => by
    have e := hans.out
    unfold larAns at e
    rw [if_neg (by simp [hf]), Int.toNat_natCast, if_pos t] at e
    obtain ⟨rfl, rfl⟩ := Prod.mk.inj e
    exact ⟨rfl, rfl⟩
  have NO : Hid (¬ LarOk es N n m lm x lx → v = 0 ∧ code = 221) := fun t => by
    have e := hans.out
    unfold larAns at e
    rw [if_neg (by simp [hf]), Int.toNat_natCast, if_neg t] at e
    obtain ⟨rfl, rfl⟩ := Prod.mk.inj e
    exact ⟨rfl, rfl⟩
  clear hans hf MOK RG HA3
  by_cases hris : RiseTo x (N : Int) lx
  rotate_left
  · obtain ⟨rfl, rfl⟩ := NO.out (fun t => hris t.2.1)
    have RC := hid_of (fun w' (K' : Kept wa w') => rising_no xo lx xc x (N : Int) w' (HX.out.kept (K.out.trans K')) hris)
    clear hris YES NO
    go_wp2_with fail
    refine Ord.region [(0, 0), (1, 0), (2, 1), (3, 2), (4, 0), (5, 0), (6, 0), (7, 0), (8, 0), (9, 1), (10, 0), (13, 0), (14, 1), (15, 0), (16, 0), (17, 0), (11, 2), (12, 0), (18, 0), (19, 0)] (fun w' => Kept wa w') (by kernel_rfl) (by kernel_rfl) (by kernel_rfl) (by kernel_rfl) (fun _ _ d _ _ h => by cases d <;> exact h) ((Kept.refl _).drewN _) ?_
    repeat
      refine Ord.step rfl (fun Ko hK => ?_)
      simp only [Ord.body]
      go_simp
      first
        | (refine hK _ _ ?_; clear hK Ko)
        | (refine ⟨_, fun w' hS => (by have c0 := hS.cell w0; have c1 := hS.cell w1; simp only [c0, c1, Result.andThen]; rfl), hK _ _ ?_⟩; clear hK Ko)
        | (go_at_call 54; refine (RC.out _ ((Kept.refl _).drewN _)).mono ?_; rintro e w5 ⟨rfl, K5⟩; refine ⟨((Kept.refl _).drewN _).trans K5, hK _ _ ?_⟩; clear hK Ko)
    refine Ord.done ?_
    replace K := hid_of (K.out.trans (((Kept.refl wa).drewN 1).trans K5))
    clear K5 w0 w1
    go_wp2
    go_ret2
    exact ⟨rfl, K.out⟩
  have RIS := hid_of hris
  have lxb : lx ≤ 1024 := by have := hris.len_le; omega
  have RC := hid_of (fun w' (K' : Kept wa w') => rising_yes xo lx xc x (N : Int) w' (HX.out.kept (K.out.trans K')) hris)
  have OC := hid_of (fun w' (K' : Kept wa w') => oddR_calls N ao n cap es xo lx xc x w' (HE.out.kept (K.out.trans K')) (HX.out.kept (K.out.trans K')) RGH.out (inTo x lx) rfl)
  obtain ⟨o1, o2⟩ := oddTo_bd es (inTo x lx) N N
  have DDEF : Hid (LarOk es N n m lm x lx ↔ 2 * (lm : Int) + oddTo es (inTo x lx) N N = (N : Int) + (lx : Int)) := ⟨fun t => by have := t.2.2; omega, fun t => ⟨MH.out, RIS.out, by omega⟩⟩
  obtain ⟨O, hO⟩ : ∃ O, oddTo es (inTo x lx) N N = O := ⟨_, rfl⟩
  rw [hO] at OC o1 o2 DDEF
  have WR0 : IntKind.i64.wrap (2 * (lm : Int)) = 2 * (lm : Int) := wrap_id (by omega) (by omega)
  have WR1 : IntKind.i64.wrap (2 * (lm : Int) + O) = 2 * (lm : Int) + O := wrap_id (by omega) (by omega)
  have WR2 : IntKind.i64.wrap ((N : Int) + (lx : Int)) = (N : Int) + (lx : Int) := wrap_id (by omega) (by omega)
  clear hO hris o1 o2
  by_cases he : 2 * (lm : Int) + O = (N : Int) + (lx : Int)
  · obtain ⟨rfl, rfl⟩ := YES.out (DDEF.out.2 he)
    have q : (2 * (lm : Int) + O != (N : Int) + (lx : Int)) = false := by simpa using he
    clear YES NO he
    go_wp2_with fail
    refine Ord.region [(0, 0), (1, 0), (2, 1), (3, 2), (4, 0), (5, 0), (6, 0), (7, 0), (8, 0), (9, 1), (10, 0), (13, 0), (14, 1), (15, 0), (16, 0), (17, 0), (11, 2), (12, 0), (18, 0), (19, 0)] (fun w' => Kept wa w') (by kernel_rfl) (by kernel_rfl) (by kernel_rfl) (by kernel_rfl) (fun _ _ d _ _ h => by cases d <;> exact h) ((Kept.refl _).drewN _) ?_
    repeat
      refine Ord.step rfl (fun Ko hK => ?_)
      simp only [Ord.body]
      go_simp
      first
        | (refine hK _ _ ?_; clear hK Ko)
        | (refine ⟨_, fun w' hS => (by have c0 := hS.cell w0; have c1 := hS.cell w1; simp only [c0, c1, Result.andThen]; rfl), hK _ _ ?_⟩; clear hK Ko)
        | (go_at_call 54; refine (RC.out _ ((Kept.refl _).drewN _)).mono ?_; rintro e w5 ⟨rfl, K5⟩; refine ⟨((Kept.refl _).drewN _).trans K5, hK _ _ ?_⟩; clear hK Ko)
        | (go_at_call 65; refine (OC.out _ (((Kept.refl _).drewN _).trans K5)).mono ?_; rintro e w6 ⟨rfl, K6⟩; refine ⟨(((Kept.refl _).drewN _).trans K5).trans K6, hK _ _ ?_⟩; clear hK Ko)
        | ((simp only [WR0, WR1, WR2, q]))
    refine Ord.done ?_
    replace K := hid_of (K.out.trans ((((Kept.refl wa).drewN 1).trans K5).trans K6))
    clear K5 K6 w0 w1
    go_wp2
    go_ret2
    exact ⟨rfl, K.out⟩
  · obtain ⟨rfl, rfl⟩ := NO.out (fun t => he (DDEF.out.1 t))
    have q : (2 * (lm : Int) + O != (N : Int) + (lx : Int)) = true := by simpa using he
    clear YES NO he
    go_wp2_with fail
    refine Ord.region [(0, 0), (1, 0), (2, 1), (3, 2), (4, 0), (5, 0), (6, 0), (7, 0), (8, 0), (9, 1), (10, 0), (13, 0), (14, 1), (15, 0), (16, 0), (17, 0), (11, 2), (12, 0), (18, 0), (19, 0)] (fun w' => Kept wa w') (by kernel_rfl) (by kernel_rfl) (by kernel_rfl) (by kernel_rfl) (fun _ _ d _ _ h => by cases d <;> exact h) ((Kept.refl _).drewN _) ?_
    repeat
      refine Ord.step rfl (fun Ko hK => ?_)
      simp only [Ord.body]
      go_simp
      first
        | (refine hK _ _ ?_; clear hK Ko)
        | (refine ⟨_, fun w' hS => (by have c0 := hS.cell w0; have c1 := hS.cell w1; simp only [c0, c1, Result.andThen]; rfl), hK _ _ ?_⟩; clear hK Ko)
        | (go_at_call 54; refine (RC.out _ ((Kept.refl _).drewN _)).mono ?_; rintro e w5 ⟨rfl, K5⟩; refine ⟨((Kept.refl _).drewN _).trans K5, hK _ _ ?_⟩; clear hK Ko)
        | (go_at_call 65; refine (OC.out _ (((Kept.refl _).drewN _).trans K5)).mono ?_; rintro e w6 ⟨rfl, K6⟩; refine ⟨(((Kept.refl _).drewN _).trans K5).trans K6, hK _ _ ?_⟩; clear hK Ko)
        | ((simp only [WR0, WR1, WR2, q]))
    refine Ord.done ?_
    replace K := hid_of (K.out.trans ((((Kept.refl wa).drewN 1).trans K5).trans K6))
    clear K5 K6 w0 w1
    go_wp2
    go_ret2
    exact ⟨rfl, K.out⟩

set_option maxRecDepth 100000 in
set_option linter.unusedSimpArgs false in
set_option maxHeartbeats 4000000 in
theorem noPerfR_calls (nodes : Int) (ao : Option Addr) (n cap : Nat) (es : List Ed) (xo : Option Addr) (lx xc : Nat) (x : List Int) (w : World) (h : ERow w ao n cap es) (hX : JRow w xo lx xc x) (z : Int) (hz : Hid (nopAns nodes es x lx = z)) :
    Calls Tryd.prog 26 #[.agg #[.int .i64 nodes, .slice ao n cap], .slice xo lx xc] w fun r w' => r = .returned (.int .i64 z) ∧ Kept w w' := by
  have hnot : ∀ (x : Bool) (w : World), (Op.unary .not (.bool x)).run Tryd.prog w = .ok (.bool (!x)) w := fun _ _ => rfl
  obtain ⟨fc, fa, hf⟩ : ∃ c a, faultOf nodes es = (c, a) := ⟨_, _, rfl⟩
  have hr2 := hX.room
  have hm2 := hX.most
  unfold maxLen at hm2
  have KW : Kept w (w.alloc (Obj.cells #[.int .i64 nodes, .slice ao n cap] 24)) := (Kept.refl w).alloc _
  have w0 : (w.alloc (Obj.cells #[.int .i64 nodes, .slice ao n cap] 24)).cell? ⟨w.heap.size, 0, none⟩ = some (.int .i64 nodes) := by simp [go_sem]
  have w1 : (w.alloc (Obj.cells #[.int .i64 nodes, .slice ao n cap] 24)).cell? ⟨w.heap.size, 1, none⟩ = some (.slice ao n cap) := by simp [go_sem]
  have CH := hid_of (checkR_calls nodes ao n cap es _ (h.kept KW) fc fa (hid_of hf))
  have HE := hid_of h
  have HX := hid_of hX
  have HLN := hid_of h.len
  clear h hX
  by_cases hc : fc = 0
  rotate_left
  · have e := hz.out
    unfold nopAns at e
    rw [if_pos (by rw [hf]; exact hc), hf] at e
    have e : fc = z := e
    subst e
    have q : (fc == 0) = false := by simpa using hc
    clear hc hf hz
    go_enter Tryd.func26, Tryd.ntmps26
    go_wp2_with fail
    refine CH.out.mono ?_
    rintro e wa ⟨rfl, K1⟩
    have HK := hid_of (KW.trans K1)
    clear KW K1 CH w0 w1
    go_wp2
    go_ret
    exact ⟨rfl, HK.out⟩
  subst hc
  have h0 : (faultOf nodes es).1 = 0 := by rw [hf]
  obtain ⟨N, rfl, RG⟩ := right_of (fault_zero h0)
  rw [← HLN.out] at RG
  have RGH := hid_of RG
  have hN := RG.nodes
  have YES : Hid (NopOk es N x lx → z = 0) := fun t => by
    have e := hz.out
    unfold nopAns at e
    rw [if_neg (by rw [hf]; simp), Int.toNat_natCast, if_pos t] at e
    exact e.symm
  have NO : Hid (¬ NopOk es N x lx → z = 221) := fun t => by
    have e := hz.out
    unfold nopAns at e
    rw [if_neg (by rw [hf]; simp), Int.toNat_natCast, if_neg t] at e
    exact e.symm
  clear hz hf h0 RG
  go_enter Tryd.func26, Tryd.ntmps26
  go_wp2_with fail
  refine CH.out.mono ?_
  rintro e wa ⟨rfl, K1⟩
  have K := hid_of (KW.trans K1)
  replace w0 := K1.cell w0
  replace w1 := K1.cell w1
  clear KW K1 CH
  go_wp2_with fail
  refine (risingR_calls xo lx xc x (N : Int) wa (HX.out.kept K.out)).mono ?_
  rintro e wb ⟨K2, ⟨ris, rfl⟩ | ⟨ris, rfl⟩⟩
  rotate_left
  · obtain rfl := NO.out (fun t => ris t.1)
    replace K := hid_of (K.out.trans K2)
    clear K2 w0 w1 ris NO YES
    go_wp2
    go_ret
    exact ⟨rfl, K.out⟩
  replace K := hid_of (K.out.trans K2)
  replace w0 := K2.cell w0
  replace w1 := K2.cell w1
  have RIS := hid_of ris
  clear K2 ris
  have OC := hid_of (oddR_calls N ao n cap es xo lx xc x wb (HE.out.kept K.out) (HX.out.kept K.out) RGH.out (inTo x lx) rfl)
  have DDEF : Hid (NopOk es N x lx ↔ (lx : Int) < oddTo es (inTo x lx) N N) := ⟨fun t => t.2, fun t => ⟨RIS.out, t⟩⟩
  obtain ⟨O, hO⟩ : ∃ O, oddTo es (inTo x lx) N N = O := ⟨_, rfl⟩
  rw [hO] at OC DDEF
  clear hO
  go_wp2_with fail
  refine OC.out.mono ?_
  rintro e wc ⟨rfl, K2⟩
  replace K := hid_of (K.out.trans K2)
  clear K2 OC w0 w1
  by_cases he : (lx : Int) < O
  · obtain rfl := YES.out (DDEF.out.2 he)
    have q : decide (O ≤ (lx : Int)) = false := decide_eq_false (by omega)
    clear YES NO he
    go_wp2
    go_ret
    exact ⟨rfl, K.out⟩
  · obtain rfl := NO.out (fun t => he (DDEF.out.1 t))
    have q : decide (O ≤ (lx : Int)) = true := decide_eq_true (by omega)
    clear YES NO he
    go_wp2
    go_ret
    exact ⟨rfl, K.out⟩
end Go.Proofs.YtpdppjngbbkbbaaDoor
namespace Go.Proofs.YtpdppjngbbkbbaaDoor
open Go.RowKit

set_option maxRecDepth 100000 in
set_option linter.unusedSimpArgs false in
set_option maxHeartbeats 4000000 in
theorem vouchBarriersWalk (nodes : Int) (ao : Option Addr) (n cap : Nat) (es : List Ed) (mo : Option Addr) (lm mc : Nat) (m : List Int) (xo : Option Addr) (lx xc : Nat) (x : List Int) (w : World) (h : ERow w ao n cap es) (hJ : JRow w mo lm mc m) (hX : JRow w xo lx xc x) :
    Calls Tryd.prog 4 #[.agg #[.int .i64 nodes, .slice ao n cap], .slice mo lm mc, .slice xo lx xc] w fun e w' => e = .returned (.bool true) ∧ Below w.heap.size w w' := by
  have hnot : ∀ (x : Bool) (w : World), (Op.unary .not (.bool x)).run Tryd.prog w = .ok (.bool (!x)) w := fun _ _ => rfl
  have KW : Kept w (w.alloc (Obj.cells #[.int .i64 nodes, .slice ao n cap] 24)) := (Kept.refl w).alloc _
  have g0 : (w.alloc (Obj.cells #[.int .i64 nodes, .slice ao n cap] 24)).cell? ⟨w.heap.size, 0, none⟩ = some (.int .i64 nodes) := by simp [go_sem]
  have g1 : (w.alloc (Obj.cells #[.int .i64 nodes, .slice ao n cap] 24)).cell? ⟨w.heap.size, 1, none⟩ = some (.slice ao n cap) := by simp [go_sem]
  obtain ⟨v1, e1, A1⟩ : ∃ v c, larAns nodes es n m lm x lx = (v, c) := ⟨_, _, rfl⟩
  obtain ⟨z, A3⟩ : ∃ z, nopAns nodes es x lx = z := ⟨_, rfl⟩
  have HE := hid_of h
  have HJ := hid_of hJ
  have HX := hid_of hX
  have HA1 := hid_of A1
  have HA3 := hid_of A3
  clear h hJ hX A1 A3
  go_enter Tryd.func4, Tryd.ntmps4
  go_wp2_with fail
  generalize w.alloc (Obj.cells #[.int .i64 nodes, .slice ao n cap] 24) = W1 at KW g0 g1 ⊢
  have KWH := hid_of KW
  refine (awake_calls W1).mono ?_
  rintro v w2 ⟨rfl, K2⟩
  have K := hid_of K2
  replace g0 := K2.cell g0
  replace g1 := K2.cell g1
  clear K2 KW
  go_wp2_with fail
  refine (large_calls nodes ao n cap es mo lm mc m xo lx xc x w2 (HE.out.kept (KWH.out.trans K.out)) (HJ.out.kept (KWH.out.trans K.out)) (HX.out.kept (KWH.out.trans K.out)) v1 e1 HA1).mono ?_
  rintro v w3 ⟨rfl, K2⟩
  replace K := hid_of (K.out.trans K2)
  replace g0 := K2.cell g0
  replace g1 := K2.cell g1
  clear K2
  go_wp2_with fail
  refine (largestR_calls nodes ao n cap es mo lm mc m xo lx xc x w3 (HE.out.kept (KWH.out.trans K.out)) (HJ.out.kept (KWH.out.trans K.out)) (HX.out.kept (KWH.out.trans K.out)) v1 e1 HA1).mono ?_
  rintro v w6 ⟨rfl, K2⟩
  replace K := hid_of (K.out.trans K2)
  replace g0 := K2.cell g0
  replace g1 := K2.cell g1
  clear K2
  have HK9 := hid_of (KWH.out.trans K.out)
  have MA := hid_of (fun w' (K' : Kept w6 w') => noPerf_calls nodes ao n cap es xo lx xc x w' (HE.out.kept (HK9.out.trans K')) (HX.out.kept (HK9.out.trans K')) z HA3)
  have MR := hid_of (fun w' (K' : Kept w6 w') => noPerfR_calls nodes ao n cap es xo lx xc x w' (HE.out.kept (HK9.out.trans K')) (HX.out.kept (HK9.out.trans K')) z HA3)
  have q1 : (v1 == v1) = true := by simp
  have q2 : (e1 == e1) = true := by simp
  have q5 : (z == z) = true := by simp
  clear HA1 HA3 HE HJ HX K
  go_wp2_with fail
  refine Ord.region [(0, 0), (1, 0), (2, 0), (3, 0), (4, 0), (5, 0), (6, 0), (7, 0), (8, 0), (9, 1), (10, 0), (12, 1), (13, 0), (11, 2), (14, 2), (15, 0), (16, 0), (17, 0)] (fun w' => Kept w6 w') (by kernel_rfl) (by kernel_rfl) (by kernel_rfl) (by kernel_rfl) (fun _ _ d _ _ h => by cases d <;> exact h) ((Kept.refl _).drewN _) ?_
  repeat
    refine Ord.step rfl (fun Ko hK => ?_)
    simp only [Ord.body]
    go_simp
    first
      | (refine hK _ _ ?_; clear hK Ko)
      | (refine ⟨_, fun w' hS => (by have c0 := hS.cell g0; have c1 := hS.cell g1; simp only [c0, c1, Result.andThen]; rfl), hK _ _ ?_⟩; clear hK Ko)
      | (go_at_call 25; refine (MA.out _ ((Kept.refl _).drewN _)).mono ?_; rintro e wm ⟨rfl, KM⟩; refine ⟨((Kept.refl _).drewN _).trans KM, hK _ _ ?_⟩; clear hK Ko)
      | (go_at_call 26; refine (MR.out _ (((Kept.refl _).drewN _).trans KM)).mono ?_; rintro e wn ⟨rfl, KN⟩; refine ⟨(((Kept.refl _).drewN _).trans KM).trans KN, hK _ _ ?_⟩; clear hK Ko)
      | ((simp only [q1, q2, q5]))
  refine Ord.done ?_
  have KF := hid_of (HK9.out.trans ((((Kept.refl _).drewN 1).trans KM).trans KN))
  clear KM KN MA MR g0 g1
  go_wp2
  go_ret
  exact ⟨rfl, KF.out⟩
end Go.Proofs.YtpdppjngbbkbbaaDoor

/- oddParts: the walk. -/
import Derived.Test.YtpdppjngbbkbbaaDoorVoH
namespace Go.Proofs.YtpdppjngbbkbbaaDoor
open Go.RowKit

theorem besd_of {w w' : World} {h cb n : Nat} {L : Nat → List Int} (H : NextAt w h h n L) (hcb : w.heap.size ≤ cb) (K : Kept w w') : Besd w' h cb n L := by
  obtain ⟨sv, r, ow, -, -⟩ := H.ex
  refine ⟨fun t => by have := r.lt; omega, fun v hv => ?_⟩
  have o := ow v hv
  obtain ⟨so, sc, e⟩ := owns_slice1j o
  rw [e] at o
  have J := JRow.of_owns o
  refine ⟨so, sc, K.cell (by rw [r.cell hv, e]), J.room, J.most, fun hp => ?_⟩
  obtain ⟨b, off, e2, hc⟩ := J.cell hp
  refine ⟨b, off, e2, fun t => ?_, fun j hj => K.cell (hc j hj)⟩
  have := (World.ownsRow.lt o b (by rw [e2]; rfl)).2
  omega

set_option linter.unusedSectionVars false
section
variable {es : List Ed} {n : Nat} (hrg : ∀ e ∈ es, 0 ≤ e.f ∧ e.f < (n : Int) ∧ 0 ≤ e.t ∧ e.t < (n : Int)) {S C : Nat → Bool} {k : Nat} (hk : k < n) (hC : Come es S C k n)
include hrg hk hC
theorem come_skip (h : C k = true) : Come es S C (k + 1) n ∧ oddAt es S n k = 0 := by
  refine ⟨fun v hv => ⟨fun t => ?_, ?_⟩, ?_⟩
  · rcases (hC v hv).1 t with t | ⟨u, hu, t⟩
    · exact .inl t
    · exact .inr ⟨u, by omega, t⟩
  · rintro (t | ⟨u, hu, su, t⟩)
    · exact (hC v hv).2 (.inl t)
    · by_cases e : u = k
      · subst e
        rcases (hC u hk).1 h with s | ⟨x, hx, sx, s⟩
        · rw [su] at s; cases s
        · exact (hC v hv).2 (.inr ⟨x, hx, sx, Way.trans s t⟩)
      · exact (hC v hv).2 (.inr ⟨u, by omega, su, t⟩)
  · unfold oddAt
    rw [if_neg]
    rintro ⟨h1, h2⟩
    rcases (hC k hk).1 h with s | ⟨x, hx, -, s⟩
    · rw [h1] at s; cases s
    · exact h2 x hx s
theorem come_take (h : C k = false) {Q : List Nat} (hd : Q.Nodup) (hl : ∀ u ∈ Q, u < n) (hQ : ∀ u, u ∈ Q ↔ Hang es S k u) : Come es S (fun v => C v || decide (v ∈ Q)) (k + 1) n ∧ oddAt es S n k = (Q.length : Int) % 2 := by
  have sk : S k = false := by
    cases e : S k with
    | false => rfl
    | true => have := (hC k hk).2 (.inl e); rw [h] at this; cases this
  refine ⟨fun v hv => ?_, ?_⟩
  · dsimp only
    rw [Bool.or_eq_true, decide_eq_true_iff, hC v hv, hQ]
    constructor
    · rintro ((t | ⟨u, hu, t⟩) | t)
      · exact .inl t
      · exact .inr ⟨u, by omega, t⟩
      · exact .inr ⟨k, by omega, sk, t⟩
    · rintro (t | ⟨u, hu, su, t⟩)
      · exact .inl (.inl t)
      · by_cases e : u = k
        · subst e; exact .inr t
        · exact .inl (.inr ⟨u, by omega, su, t⟩)
  · unfold oddAt
    rw [if_pos]
    · rw [← cnt_list Q n hd hl]
      rw [cntTo_congr (fun v _ => hQ v)]
    · refine ⟨sk, fun u hu t => ?_⟩
      cases e : S u with
      | false => have := (hC k hk).2 (.inr ⟨u, hu, e, t⟩); rw [h] at this; cases this
      | true => have := Hang.on hrg t e; omega
end
theorem oddTo_bd (es : List Ed) (S : Nat → Bool) (N k : Nat) : 0 ≤ oddTo es S N k ∧ oddTo es S N k ≤ (k : Int) := by
  induction k with
  | zero => exact ⟨Int.le_refl _, Int.le_refl _⟩
  | succ k ih => rw [oddTo_succ]; have := oddAt_bd es S N k; omega

set_option maxRecDepth 100000 in
set_option linter.unusedSimpArgs false in
set_option maxHeartbeats 4000000 in
theorem odd_calls (n : Nat) (hn : n ≤ 1024) (ao : Option Addr) (m cap : Nat) (es : List Ed) (ob : Nat) (S : Nat → Bool) (w : World) (h : ERow w ao m cap es) (hm4 : m ≤ 4096) (hrg : Hid (∀ e ∈ es, 0 ≤ e.f ∧ e.f < (n : Int) ∧ 0 ≤ e.t ∧ e.t < (n : Int))) (hS : BlsAt w ob n S) :
    Calls Tryd.prog 64 #[.agg #[.int .i64 (n : Int), .slice ao m cap], .slice (some ⟨ob, 0, none⟩) n n] w fun r w' => r = .returned (.int .i64 (oddTo es S n n)) ∧ Kept w w' := by
  have KG : Kept w (w.alloc (Obj.cells #[.int .i64 (n : Int), .slice ao m cap] 24)) := (Kept.refl w).alloc _
  have g0 : (w.alloc (Obj.cells #[.int .i64 (n : Int), .slice ao m cap] 24)).cell? ⟨w.heap.size, 0, none⟩ = some (.int .i64 (n : Int)) := by simp [go_sem]
  have g1 : (w.alloc (Obj.cells #[.int .i64 (n : Int), .slice ao m cap] 24)).cell? ⟨w.heap.size, 1, none⟩ = some (.slice ao m cap) := by simp [go_sem]
  have hmkB : ∀ w : World, (Instr.makeSlice 94 (.int .i64 (n : Int)) (.int .i64 (n : Int))).run Tryd.prog w = .ok (.slice (some ⟨w.heap.size, 0, none⟩) n n) (w.alloc (.cells (madeCells #[.bool false] n) 4)) :=
    fun w => run_make_row' 94 4 (.bool false) 1 Tryd.underlying94 infoBl0 rfl .i64 .i64 n (by omega) (by omega) w
  have HS := hid_of hS
  have HLN := hid_of h.len
  have BC := hid_of (besides_calls n hn ao m cap es _ (h.kept KG) hm4 hrg)
  have hadj : Hid ((∀ v, v < n → ∀ t ∈ adj es m v, 0 ≤ t ∧ t < (n : Int)) ∧ ∀ v, (adj es m v).length ≤ 8192) := ⟨fun v hv t ht => by
    have hl := h.len
    obtain ⟨i, hi, ⟨h1, h2⟩ | ⟨h1, h2⟩⟩ := adj_mem.1 ht
    · have := hrg.out _ (mem_at (es := es) (i := i) (by omega)); omega
    · have := hrg.out _ (mem_at (es := es) (i := i) (by omega)); omega, fun v => by have := adj_len es m v; omega⟩
  clear h hS
  go_enter Tryd.func64, Tryd.ntmps64
  go_wp2_with fail
  generalize w.alloc (Obj.cells #[.int .i64 (n : Int), .slice ao m cap] 24) = W0 at KG g0 g1 BC ⊢
  refine BC.out.mono ?_
  rintro e wa ⟨q, rfl, NA, -, K1⟩
  replace g0 := K1.cell g0
  have HK := hid_of (KG.trans K1)
  have NAH := hid_of NA
  clear KG K1 BC g1 NA
  go_upto_region 3 with fail
  have KM : Kept wa (wa.alloc (.cells (madeCells #[.bool false] n) 4)) := (Kept.refl wa).alloc _
  have B0 : BlsAt (wa.alloc (.cells (madeCells #[.bool false] n) 4)) wa.heap.size n (fun _ => false) := World.rowIs_made wa (.bool false) n 4
  have CP := copy_bools B0 (HS.out.kept (HK.out.trans KM))
  have KC := setCells_kept (W := wa) (cb := wa.heap.size) (Nat.le_refl _) ((List.range n).map fun i => Value.bool (S i)) 0 _ KM
  obtain ⟨cp1, cp2⟩ := CP
  obtain ⟨cb, hcb⟩ : ∃ cb, wa.heap.size = cb := ⟨_, rfl⟩
  replace g0 := KC.cell g0
  have BS := hid_of (besd_of NAH.out (Nat.le_refl _) KC)
  have HK2 := hid_of (HK.out.trans KC)
  have hwc : w.heap.size ≤ cb := by rw [← hcb]; exact HK.out.size
  have C0 : Hid (Come es S S 0 n) := fun v _ => ⟨fun t => .inl t, fun t => t.elim id (fun ⟨u, hu, _⟩ => absurd hu (Nat.not_lt_zero _))⟩
  rw [hcb] at cp1 cp2 g0 BS HK2
  clear B0 hmkB KM KC HK NAH
  go_upto_region 4 with fail
  rw [hcb]
  generalize (wa.alloc (Obj.cells (madeCells #[Value.bool false] n) 4)).setCells cb 0 ((List.range n).map fun i => Value.bool (S i)) = Wc at cp2 g0 BS HK2 ⊢
  have B1 := hid_of cp2
  clear cp1 cp2 hcb
  go_wp2_with fail
  go_loopw [7, 8, 19] (fun s _ i wr => ∃ k : Nat, k ≤ n ∧ i = .int .i64 (k : Int) ∧ s = .int .i64 (oddTo es S n k) ∧ ∃ C, BlsAt wr cb n C ∧ Come es S C k n ∧ Besd wr q cb n (adj es m) ∧ Kept w wr) (fun _ _ i _ => n - (intOf i).toNat)
  case atStart => exact ⟨0, by omega, rfl, rfl, S, B1.out, C0.out, BS.out, HK2.out⟩
  case round =>
    obtain ⟨k, hk, rfl, rfl, C, BR, CR, RR, KR⟩ := hrel
    clear B1 C0 BS HK2
    have BRH := hid_of BR
    have CRH := hid_of CR
    have RRH := hid_of RR
    have KRH := hid_of KR
    obtain ⟨s1, s2⟩ := oddTo_bd es S n k
    have SU := hid_of (oddTo_succ es S n k)
    clear BR CR RR KR g0
    have hnot : ∀ (x : Bool) (w : World), (Op.unary .not (.bool x)).run Tryd.prog w = .ok (.bool (!x)) w := fun _ _ => rfl
    by_cases hgo : (k : Int) < (n : Int)
    · have hkn : k < n := by omega
      have ck := BRH.out.cell hkn
      by_cases hc : C k = true
      · obtain ⟨C2, hz⟩ := come_skip hrg.out hkn CRH.out hc
        rw [hz, Int.add_zero] at SU
        have C2H := hid_of C2
        rw [hc] at ck
        clear hz C2 hc s1 s2
        go_wp2_with fail
        go_roundw
        case rel => exact ⟨k + 1, by omega, by go_num, by rw [SU.out], C, BRH.out, C2H.out, RRH.out, KRH.out⟩
        case measure => simp [intOf]; omega
      · have hc' : C k = false := by simpa using hc
        rw [hc'] at ck
        have CC := hid_of (come_calls n hn k hkn q cb (adj es m) C wr RRH.out BRH.out hc' hadj.out.1 hadj.out.2)
        generalize oddTo es S n k = od at SU s1 s2
        clear hc
        have HC' := hid_of hc'
        clear hc'
        go_wp2_with fail
        refine CC.out.mono ?_
        rintro e w2 ⟨Q, rfl, nd, lt, mem, B2, CH⟩
        have mem2 : ∀ u, u ∈ Q ↔ Hang es S k u := fun u => by
          rw [mem u]
          have e : m = es.length := HLN.out
          rw [e]
          exact come_part hrg.out hkn CRH.out HC'.out u
        obtain ⟨C2, hz⟩ := come_take hrg.out hkn CRH.out HC'.out nd lt mem2
        have hql : Q.length ≤ n := nodup_len n Q nd lt
        have C2H := hid_of C2
        have B2H := hid_of B2
        have KN := hid_of (KRH.out.ch CH (fun i hi => by subst hi; exact hwc))
        have RN := hid_of (RRH.out.ch CH)
        rw [hz] at SU
        have HM : ((Q.length : Int)).tmod 2 = (Q.length : Int) % 2 := by rw [Int.tmod_eq_emod_of_nonneg (by omega)]
        obtain ⟨r, hr⟩ : ∃ r, (Q.length : Int) % 2 = r := ⟨_, rfl⟩
        rw [hr] at HM SU
        have WR : IntKind.i64.wrap (od + r) = od + r := wrap_id (by omega) (by omega)
        clear CC mem mem2 nd lt C2 B2 CH hz hr BRH CRH RRH KRH HC' s1 s2
        go_wp2_with fail
        go_roundw
        case rel => exact ⟨k + 1, by omega, by go_num, by rw [SU.out], _, B2H.out, C2H.out, RN.out, KN.out⟩
        case measure => simp [intOf]; omega
    · obtain rfl : k = n := by omega
      clear BRH CRH RRH SU
      go_wp2
      go_ret
      exact ⟨rfl, KRH.out⟩
end Go.Proofs.YtpdppjngbbkbbaaDoor

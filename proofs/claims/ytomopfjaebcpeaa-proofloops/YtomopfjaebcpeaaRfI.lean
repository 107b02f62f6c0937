/- The document's Apart. -/
import Derived.Test.YtomopfjaebcpeaaRfH
namespace Go.Proofs.Ytomopfjaebcpeaa
open Go.RowKit

set_option maxRecDepth 100000 in
set_option linter.unusedSimpArgs false in
set_option maxHeartbeats 4000000 in
theorem apartR_calls (nodes : Int) (ao : Option Addr) (n cap : Nat) (es : List Ed) (bo : Option Addr) (k bc : Nat) (bs : List Bool) (w : World) (h : ERow w ao n cap es) (hB : BRow w bo k bc bs) (z : Int) (hans : Hid (apartAns nodes es n bs k = z)) :
    Calls Try.prog 30 #[.agg #[.int .i64 nodes, .slice ao n cap], .slice bo k bc] w fun e w' => e = .returned (.int .i64 z) ∧ Kept w w' := by
  obtain ⟨c, a, hf⟩ : ∃ c a, faultOf nodes es = (c, a) := ⟨_, _, rfl⟩
  replace hans := hans.out
  unfold apartAns at hans
  rw [hf] at hans
  have hr := h.room
  have hm := h.most
  have hr2 := hB.room
  have hm2 := hB.most
  unfold maxLen at hm hm2
  have KW : Kept w (w.alloc (Obj.cells #[.int .i64 nodes, .slice ao n cap] 24)) := (Kept.refl w).alloc _
  have w0 : (w.alloc (Obj.cells #[.int .i64 nodes, .slice ao n cap] 24)).cell? ⟨w.heap.size, 0, none⟩ = some (.int .i64 nodes) := by simp [go_sem]
  have w1 : (w.alloc (Obj.cells #[.int .i64 nodes, .slice ao n cap] 24)).cell? ⟨w.heap.size, 1, none⟩ = some (.slice ao n cap) := by simp [go_sem]
  have CH := hid_of (checkR_calls nodes ao n cap es _ (h.kept KW) c a (hid_of hf))
  have HE := hid_of h
  have HB := hid_of hB
  have hlen := h.len
  clear h hB
  by_cases hc : c = 0
  rotate_left
  · rw [if_pos hc] at hans
    subst hans
    have q : (c != 0) = true := by simpa using hc
    clear hc hf hlen
    go_enter Try.func30, Try.ntmps30
    go_wp2_with fail
    refine CH.out.mono ?_
    rintro e wa ⟨rfl, K1⟩
    have HK := hid_of (KW.trans K1)
    clear KW K1 CH w0 w1
    go_wp2
    go_ret
    exact ⟨rfl, HK.out⟩
  subst hc
  rw [if_neg (by simp)] at hans
  obtain ⟨N, rfl, RG⟩ := right_of (fault_zero (by rw [hf]))
  rw [← hlen] at RG
  simp only [Int.toNat_natCast] at hans
  have HA := hid_of hans
  have RGH := hid_of RG
  have hN := RG.nodes
  have hn := RG.edges
  clear hans hf hlen RG
  by_cases hkN : k = N
  rotate_left
  · have e := HA.out
    rw [if_neg (fun t => hkN t.1)] at e
    subst e
    have q : ((k : Int) != (N : Int)) = true := by simp; omega
    clear HA
    go_enter Try.func30, Try.ntmps30
    go_wp2_with fail
    refine CH.out.mono ?_
    rintro e wa ⟨rfl, K1⟩
    have HK := hid_of (KW.trans K1)
    replace w0 := K1.cell w0
    clear KW K1 CH
    go_wp2
    go_ret
    exact ⟨rfl, HK.out⟩
  subst hkN
  have qkk : ((k : Int) != (k : Int)) = false := by simp
  go_enter Try.func30, Try.ntmps30
  go_wp2_with fail
  refine CH.out.mono ?_
  rintro e wa ⟨rfl, K1⟩
  have HK := hid_of (KW.trans K1)
  replace w0 := K1.cell w0
  replace w1 := K1.cell w1
  clear KW K1 CH
  go_wp2_with fail
  go_loopw [7, 8, 9, 10, 11] (fun p q i _ _ wr => wa = wr ∧ ∃ (j : Nat), j ≤ n ∧ i = .int .i64 j ∧ ∃ (x y : Int), p = .int .i64 x ∧ q = .int .i64 y ∧ (0 ≤ x ∧ x ≤ j ∧ 0 ≤ y ∧ y ≤ j) ∧ (x = 0 ↔ onTo es (bAt bs) j = false) ∧ (y = 0 ↔ offTo es (bAt bs) j = false) ∧ ∀ u, u < j → ShutOk (bAt bs) (edAt es u)) (fun _ _ i _ _ _ => n - (intOf i).toNat)
  case atStart => exact ⟨rfl, 0, by omega, rfl, 0, 0, rfl, rfl, by omega, by simp [onTo], by simp [offTo], fun i hi => by omega⟩
  case round =>
    obtain ⟨rfl, j, hj, rfl, x, y, rfl, rfl, ⟨x1, x2, y1, y2⟩, hx, hy, hno⟩ := hrel
    have HNO := hid_of hno
    have HX := hid_of hx
    have HY := hid_of hy
    clear hno hx hy
    by_cases hgo : (j : Int) < (n : Int)
    · obtain ⟨b, off, rfl, hc⟩ := (HE.out.kept HK.out).cell (by omega)
      obtain ⟨d1, d2, d3, d4⟩ := hc j (by omega)
      obtain ⟨e1, e2, e3, e4⟩ := RGH.out.ends j (by omega)
      obtain ⟨b2, off2, rfl, hc2⟩ := (HB.out.kept HK.out).at (by omega)
      have d5 := hc2 (edAt es j).f.toNat (by omega)
      have d6 := hc2 (edAt es j).t.toNat (by omega)
      have SA := hid_of (onTo_succ es (bAt bs) j)
      have SB := hid_of (offTo_succ es (bAt bs) j)
      have HIT : Hid (ShutOk (bAt bs) (edAt es j) → ∀ q, q < j + 1 → ShutOk (bAt bs) (edAt es q)) := fun hb i hi => by
        by_cases e : i = j
        · subst e; exact hb
        · exact HNO.out i (by omega)
      have MISS : Hid (¬ ShutOk (bAt bs) (edAt es j) → z = 221) := fun hb => by
        have e := HA.out
        rw [if_neg (fun t => hb (t.2.1 j (by omega)))] at e
        exact e.symm
      unfold ShutOk at HIT MISS
      have x2' : x ≤ 4096 := by omega
      have y2' : y ≤ 4096 := by omega
      have WX : IntKind.i64.wrap (x + 1) = x + 1 := wrap_id (by omega) (by omega)
      have WY : IntKind.i64.wrap (y + 1) = y + 1 := wrap_id (by omega) (by omega)
      clear hc hc2 d3 d4
      generalize onTo es (bAt bs) j = p1 at SA HX
      generalize offTo es (bAt bs) j = p2 at SB HY
      generalize edAt es j = e at d1 d2 d5 d6 e1 e2 e3 e4 SA SB HIT MISS
      obtain ⟨ef, et, ec, ek⟩ := e
      simp only at d1 d2 d5 d6 e1 e2 e3 e4 SA SB HIT MISS
      obtain ⟨fn, rfl⟩ : ∃ fn : Nat, ef = (fn : Int) := ⟨ef.toNat, by omega⟩
      obtain ⟨tn, rfl⟩ : ∃ tn : Nat, et = (tn : Int) := ⟨et.toNat, by omega⟩
      simp only [Int.toNat_natCast] at d5 d6 SA SB HIT MISS
      generalize bAt bs fn = u at d5 SA SB HIT MISS
      generalize bAt bs tn = v at d6 SA SB HIT MISS
      have hnot : ∀ (x : Bool) (w : World), (Op.unary .not (.bool x)).run Try.prog w = .ok (.bool (!x)) w := fun _ _ => rfl
      cases u
      · have P := hid_of (HIT.out (by simp))
        clear HIT MISS
        cases v
        · have A : Hid (x = 0 ↔ onTo es (bAt bs) (j + 1) = false) := by
            rw [SA.out, Bool.or_false, Bool.or_false]; exact HX.out
          have B : Hid (y + 1 = 0 ↔ offTo es (bAt bs) (j + 1) = false) := by
            show _ ↔ _
            rw [SB.out]; simp; omega
          clear SA SB HX HY
          go_wp2_with fail
          go_roundw
          case rel => exact ⟨by trivial, j + 1, by omega, by go_num, x, y + 1, rfl, rfl, by omega, A.out, B.out, P.out⟩
          case measure => simp [intOf]; omega
        · have A : Hid (x + 1 = 0 ↔ onTo es (bAt bs) (j + 1) = false) := by
            show _ ↔ _
            rw [SA.out]; simp; omega
          have B : Hid (y + 1 = 0 ↔ offTo es (bAt bs) (j + 1) = false) := by
            show _ ↔ _
            rw [SB.out]; simp; omega
          clear SA SB HX HY
          go_wp2_with fail
          go_roundw
          case rel => exact ⟨by trivial, j + 1, by omega, by go_num, x + 1, y + 1, rfl, rfl, by omega, A.out, B.out, P.out⟩
          case measure => simp [intOf]; omega
      · cases v
        · obtain rfl := MISS.out (by simp)
          clear HIT MISS SA SB HX HY
          go_wp2_with fail
          go_ret
          exact ⟨rfl, HK.out⟩
        · have P := hid_of (HIT.out (by simp))
          have A : Hid (x + 1 = 0 ↔ onTo es (bAt bs) (j + 1) = false) := by
            show _ ↔ _
            rw [SA.out]; simp; omega
          have B : Hid (y = 0 ↔ offTo es (bAt bs) (j + 1) = false) := by
            show _ ↔ _
            rw [SB.out, Bool.not_true, Bool.or_false, Bool.or_false]; exact HY.out
          clear HIT MISS SA SB HX HY
          go_wp2_with fail
          go_roundw
          case rel => exact ⟨by trivial, j + 1, by omega, by go_num, x + 1, y, rfl, rfl, by omega, A.out, B.out, P.out⟩
          case measure => simp [intOf]; omega
    · obtain rfl : j = n := by omega
      have e := HA.out
      by_cases hx0 : x = 0
      · rw [if_neg (fun t => by have := HX.out.1 hx0; rw [t.2.2.1] at this; cases this)] at e
        subst e
        have qx : (x == 0) = true := by simpa using hx0
        clear HA HX HY HNO hx0
        go_wp2_with fail
        go_ret
        exact ⟨rfl, HK.out⟩
      · have qx : (x == 0) = false := by simpa using hx0
        by_cases hy0 : y = 0
        · rw [if_neg (fun t => by have := HY.out.1 hy0; rw [t.2.2.2] at this; cases this)] at e
          subst e
          have qy : (y == 0) = true := by simpa using hy0
          clear HA HX HY HNO hx0 hy0
          go_wp2_with fail
          go_ret
          exact ⟨rfl, HK.out⟩
        · have qy : (y == 0) = false := by simpa using hy0
          rw [if_pos ⟨rfl, HNO.out, by
            cases t : onTo es (bAt bs) j
            · exact absurd (HX.out.2 t) hx0
            · rfl, by
            cases t : offTo es (bAt bs) j
            · exact absurd (HY.out.2 t) hy0
            · rfl⟩] at e
          subst e
          clear HA HX HY HNO hx0 hy0
          go_wp2_with fail
          go_ret
          exact ⟨rfl, HK.out⟩
end Go.Proofs.Ytomopfjaebcpeaa

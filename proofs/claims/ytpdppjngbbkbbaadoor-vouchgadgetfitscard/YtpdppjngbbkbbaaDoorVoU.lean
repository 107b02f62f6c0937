/- mustBeMetric. -/
import Derived.Test.YtpdppjngbbkbbaaDoorVoT
namespace Go.Proofs.YtpdppjngbbkbbaaDoor
open Go.RowKit

def rowAt (ds : List (List Int)) (i : Nat) : List Int := ds.getD i []
/-- A row of rows of numbers. -/
structure LRow (w : World) (ao : Option Addr) (n cap : Nat) (ds : List (List Int)) : Prop where
  len : n = ds.length
  room : n ≤ cap
  most : cap ≤ maxLen
  cell : 0 < n → ∃ b off, ao = some ⟨b, off, none⟩ ∧ ∀ i, i < n → ∃ ro rl rc, w.cell? ⟨b, off + i, none⟩ = some (.slice ro rl rc) ∧ JRow w ro rl rc (rowAt ds i)
theorem LRow.kept {w w' : World} {ao : Option Addr} {n cap : Nat} {ds : List (List Int)} (h : LRow w ao n cap ds) (K : Kept w w') : LRow w' ao n cap ds :=
  ⟨h.len, h.room, h.most, fun hn => by
    obtain ⟨b, off, e, hc⟩ := h.cell hn
    refine ⟨b, off, e, fun i hi => ?_⟩
    obtain ⟨ro, rl, rc, h1, h2⟩ := hc i hi
    exact ⟨ro, rl, rc, K.cell h1, h2.kept K⟩⟩

/-- An edge that a row allows. -/
def NearE (es : List Ed) (row : List Int) (j : Nat) : Prop := -(edAt es j).k ≤ zAt row (edAt es j).f.toNat - zAt row (edAt es j).t.toNat ∧ zAt row (edAt es j).f.toNat - zAt row (edAt es j).t.toNat ≤ (edAt es j).k
/-- A row of a metric, from a node. -/
def RowOk (es : List Ed) (N n : Nat) (row : List Int) (u : Int) : Prop := PotsOk row row.length N ∧ zAt row u.toNat = 0 ∧ ∀ j, j < n → NearE es row j
/-- A metric. -/
def MetOk (es : List Ed) (N n : Nat) (ds : List (List Int)) (nd : Nat) (un : List Int) (nu : Nat) : Prop := nd = nu ∧ ∀ i, i < nd → RowOk es N n (rowAt ds i) (zAt un i)

set_option maxRecDepth 100000 in
set_option linter.unusedSimpArgs false in
set_option maxHeartbeats 4000000 in
theorem metric_calls (dO : Option Addr) (nd dc : Nat) (ds : List (List Int)) (uo : Option Addr) (nu uc : Nat) (un : List Int) (N : Nat) (ao : Option Addr) (n cap : Nat) (es : List Ed) (w : World) (hD : LRow w dO nd dc ds) (hU : JRow w uo nu uc un) (h : ERow w ao n cap es) (RG : Right N n es) (hu : ∀ j, j < nu → 0 ≤ zAt un j ∧ zAt un j < (N : Int)) :
    Calls Tryd.prog 84 #[.slice dO nd dc, .slice uo nu uc, .agg #[.int .i64 (N : Int), .slice ao n cap]] w fun r w' => Kept w w' ∧ ((MetOk es N n ds nd un nu ∧ r = .returned (.tuple #[])) ∨ (¬ MetOk es N n ds nd un nu ∧ r = .panicked [{ v := .iface 140 (.agg #[.int .i64 221]), recovered := false }])) := by
  have hr1 := h.room
  have hm1 := h.most
  have hr2 := hD.room
  have hm2 := hD.most
  have hr3 := hU.room
  have hm3 := hU.most
  unfold maxLen at hm1 hm2 hm3
  have KW : Kept w (w.alloc (Obj.cells #[.int .i64 (N : Int), .slice ao n cap] 24)) := (Kept.refl w).alloc _
  have w0 : (w.alloc (Obj.cells #[.int .i64 (N : Int), .slice ao n cap] 24)).cell? ⟨w.heap.size, 0, none⟩ = some (.int .i64 (N : Int)) := by simp [go_sem]
  have w1 : (w.alloc (Obj.cells #[.int .i64 (N : Int), .slice ao n cap] 24)).cell? ⟨w.heap.size, 1, none⟩ = some (.slice ao n cap) := by simp [go_sem]
  have HE := hid_of h
  have HD := hid_of hD
  have HU := hid_of hU
  have RGH := hid_of RG
  have HR := hid_of hu
  clear h hD hU RG hu
  by_cases hdu : nd = nu
  rotate_left
  · have q : ((nd : Int) == (nu : Int)) = false := by rw [beq_eq_false_iff_ne]; omega
    go_enter Tryd.func84, Tryd.ntmps84
    go_wp2_with (go_at_call 51; refine (must_no _).mono ?_; rintro e w' ⟨rfl, rfl⟩)
    exact ⟨rfl, KW, .inr ⟨fun t => hdu t.1, rfl⟩⟩
  subst hdu
  have q : ((nd : Int) == (nd : Int)) = true := by simp
  go_enter Tryd.func84, Tryd.ntmps84
  go_wp2_with (go_at_call 51; refine (must_ok _).mono ?_; rintro e w' ⟨rfl, rfl⟩)
  generalize w.alloc (Obj.cells #[.int .i64 (N : Int), .slice ao n cap] 24) = W1 at KW w0 w1 ⊢
  have HK := hid_of KW
  have W0H := hid_of w0
  have W1H := hid_of w1
  clear KW w0 w1
  go_loopw [6, 7, 9, 10, 19] (fun _ _ _ _ i wr => ∃ (k : Nat), k ≤ nd ∧ i = .int .i64 k ∧ Kept W1 wr ∧ ∀ i, i < k → RowOk es N n (rowAt ds i) (zAt un i)) (fun _ _ _ _ i _ => nd - (intOf i).toNat)
  case atStart => exact ⟨0, by omega, rfl, Kept.refl _, fun i hi => by omega⟩
  case round =>
    obtain ⟨k, hk, rfl, K, hno⟩ := hrel
    have HNO := hid_of hno
    have KH := hid_of (HK.out.trans K)
    have w0 := K.cell W0H.out
    have w1 := K.cell W1H.out
    clear hno
    by_cases hgo : (k : Int) < (nd : Int)
    · obtain ⟨b, off, rfl, hc⟩ := (HD.out.kept KH.out).cell (by omega)
      obtain ⟨ro, rl, rc, c1, J⟩ := hc k (by omega)
      obtain ⟨b2, o2, rfl, hc2⟩ := (HU.out.kept KH.out).at (by omega)
      have cu := hc2 k (by omega)
      obtain ⟨u1, u2⟩ := HR.out k (by omega)
      have HIT : Hid (RowOk es N n (rowAt ds k) (zAt un k) → ∀ i, i < k + 1 → RowOk es N n (rowAt ds i) (zAt un i)) := fun hb i hi => by
        by_cases e : i = k
        · subst e; exact hb
        · exact HNO.out i (by omega)
      have MISS : Hid (¬ RowOk es N n (rowAt ds k) (zAt un k) → ¬ MetOk es N n ds nd un nd) := fun hb t => hb (t.2 k (by omega))
      have HLN := hid_of J.len
      generalize rowAt ds k = row at J HIT MISS HLN
      obtain ⟨u, hue⟩ : ∃ u : Nat, zAt un k = (u : Int) := ⟨(zAt un k).toNat, by omega⟩
      rw [hue] at cu u2 HIT MISS
      have huN : u < N := by omega
      have JH := hid_of J
      have jr := J.room
      have jm := J.most
      unfold maxLen at jm
      have K1H := hid_of K
      clear hc hc2 J u1 hue K
      go_wp2_with fail
      refine (mustPot_calls N ro rl rc row wr JH.out).mono ?_
      rintro e wa ⟨K2, ⟨ok, rfl⟩ | ⟨ok, rfl⟩⟩
      rotate_left
      · have P := hid_of (MISS.out (fun t => ok (by rw [HLN.out]; exact t.1)))
        have HK2 := hid_of (KH.out.trans K2)
        clear HIT MISS K2 w0 w1 c1 cu ok
        go_wp2
        exact ⟨rfl, HK2.out, .inr ⟨P.out, rfl⟩⟩
      obtain rfl : rl = N := ok.1
      have POK := hid_of ok
      have HK2 := hid_of (KH.out.trans K2)
      have K12 := hid_of (K1H.out.trans K2)
      have J2 := hid_of (JH.out.kept K2)
      replace cu := K2.cell cu
      replace w1 := K2.cell w1
      obtain ⟨b3, o3, rfl, hc3⟩ := J2.out.at (by omega)
      have cz := hc3 u huN
      clear K2 ok KH K1H JH w0 c1
      by_cases hz : zAt row u = 0
      rotate_left
      · have P := hid_of (MISS.out (fun t => hz (by have := t.2.1; rwa [Int.toNat_natCast] at this)))
        have qz : (zAt row u == 0) = false := by rw [beq_eq_false_iff_ne]; exact hz
        generalize zAt row u = z at cz qz
        clear HIT MISS hc3 hz
        go_wp2_with (go_at_call 51; refine (must_no _).mono ?_; rintro e w' ⟨rfl, rfl⟩)
        exact ⟨rfl, HK2.out, .inr ⟨P.out, rfl⟩⟩
      have HZ := hid_of hz
      rw [hz] at cz
      obtain ⟨WQ, hWQ⟩ : ∃ x : World, x = wa := ⟨_, rfl⟩
      subst hWQ
      clear hz hc3
      go_wp2_with (go_at_call 51; refine (must_ok _).mono ?_; rintro e w' ⟨rfl, rfl⟩)
      go_loopw [9, 10, 40] (fun _ _ i w2 => ∃ (j : Nat), j ≤ n ∧ i = .int .i64 j ∧ Kept WQ w2 ∧ ∀ i, i < j → NearE es row i) (fun _ _ i _ => n - (intOf i).toNat)
      case atStart => exact ⟨0, by omega, rfl, Kept.refl _, fun i hi => by omega⟩
      case round =>
        obtain ⟨j, hj, rfl, K3, hno⟩ := hrel
        have HNO2 := hid_of hno
        have K3H := hid_of K3
        clear hno cz cu w1
        by_cases hgo2 : (j : Int) < (n : Int)
        · obtain ⟨b4, o4, rfl, hc4⟩ := (HE.out.kept (HK2.out.trans K3)).cell (by omega)
          obtain ⟨d1, d2, d3, d4⟩ := hc4 j (by omega)
          obtain ⟨e1, e2, e3, e4⟩ := RGH.out.ends j (by omega)
          obtain ⟨l1, l2⟩ := RGH.out.costs j (by omega)
          have HIT2 : Hid (NearE es row j → ∀ i, i < j + 1 → NearE es row i) := fun hb i hi => by
            by_cases e : i = j
            · subst e; exact hb
            · exact HNO2.out i (by omega)
          have MISS2 : Hid (¬ NearE es row j → ¬ MetOk es rl n ds nd un nd) := fun hb => MISS.out (fun t => hb (t.2.2 j (by omega)))
          unfold NearE at HIT2 MISS2
          obtain ⟨b5, o5, e5, hc5⟩ := (J2.out.kept K3).at (by omega)
          simp only [Option.some.injEq, Addr.mk.injEq, and_true] at e5
          obtain ⟨rfl, rfl⟩ := e5
          have p1 := hc5 (edAt es j).f.toNat (by omega)
          have p2 := hc5 (edAt es j).t.toNat (by omega)
          obtain ⟨m1, m2⟩ := POK.out.2 (edAt es j).f.toNat (by omega)
          obtain ⟨m3, m4⟩ := POK.out.2 (edAt es j).t.toNat (by omega)
          generalize edAt es j = e at d1 d2 d3 d4 e1 e2 e3 e4 l1 l2 p1 p2 m1 m2 m3 m4 HIT2 MISS2
          obtain ⟨ef, et, ec, ek⟩ := e
          simp only at d1 d2 d3 d4 e1 e2 e3 e4 l1 l2 p1 p2 m1 m2 m3 m4 HIT2 MISS2
          obtain ⟨f, rfl⟩ : ∃ f : Nat, ef = (f : Int) := ⟨ef.toNat, by omega⟩
          obtain ⟨t, rfl⟩ : ∃ t : Nat, et = (t : Int) := ⟨et.toNat, by omega⟩
          simp only [Int.toNat_natCast] at p1 p2 m1 m2 m3 m4 HIT2 MISS2
          generalize zAt row f = x at p1 m1 m2 HIT2 MISS2
          generalize zAt row t = y at p2 m3 m4 HIT2 MISS2
          obtain ⟨dd, hdd⟩ : ∃ dd, x - y = dd := ⟨_, rfl⟩
          obtain ⟨nk, hnk⟩ : ∃ nk, -ek = nk := ⟨_, rfl⟩
          have WR : IntKind.i64.wrap (x - y) = dd := by rw [wrap_id (by omega) (by omega)]; exact hdd
          have WR2 : IntKind.i64.wrap (-ek) = nk := by rw [wrap_id (by omega) (by omega)]; exact hnk
          rw [hdd, hnk] at HIT2 MISS2
          clear hdd hnk
          have hfr : (f : Int) < (rl : Int) := by omega
          have htr : (t : Int) < (rl : Int) := by omega
          clear m1 m2 m3 m4 l1 l2 hc4 hc5 K3
          go_upto_region 10 with fail
          generalize hW : wr.alloc (Obj.cells #[.int .i64 (f : Int), .int .i64 (t : Int), .int .i64 ec, .int .i64 ek] 86) = W3
          obtain ⟨EK, a0, a1, a2, a3, -⟩ := edge_box hW
          replace p1 := EK.cell p1
          replace p2 := EK.cell p2
          have K4 := hid_of (K3H.out.trans EK)
          clear d1 d2 d3 d4 EK hW K3H a2
          refine Ord.region [(0, 0), (1, 0), (2, 1), (3, 0), (4, 1), (5, 0), (6, 0), (7, 1), (8, 0), (9, 1), (10, 0), (11, 0)] (fun w' => Kept W3 w') (by kernel_rfl) (by kernel_rfl) (by kernel_rfl) (by kernel_rfl) (fun _ _ d _ _ h => by cases d <;> exact h) ((Kept.refl _).drewN _) ?_
          repeat
            refine Ord.step rfl (fun Ko hK => ?_)
            simp only [Ord.body]
            go_simp
            first
              | (refine hK _ _ ?_; clear hK Ko)
              | (refine ⟨_, fun w' hS => (by have c0 := hS.cell a0; have c1 := hS.cell a1; have c2 := hS.cell p1; have c3 := hS.cell p2; simp only [c0, c1, c2, c3, Result.andThen]; rfl), hK _ _ ?_⟩; clear hK Ko)
              | ((rw [WR]))
          refine Ord.done ?_
          have a3' := ((Kept.refl W3).drewN 1).cell a3
          have K5 := hid_of (K4.out.drewN 1)
          clear a0 a1 a3 p1 p2
          generalize W3.drewN 1 = W5 at a3' K5 ⊢
          by_cases h1 : nk ≤ dd
          · have q1 : decide (nk ≤ dd) = true := decide_eq_true h1
            by_cases h2 : dd ≤ ek
            · have q2 : decide (dd ≤ ek) = true := decide_eq_true h2
              have P := hid_of (HIT2.out ⟨h1, h2⟩)
              clear HIT2 MISS2 h1 h2
              go_wp2_with (go_at_call 51; refine (must_ok _).mono ?_; rintro e w' ⟨rfl, rfl⟩)
              go_roundw
              case rel => exact ⟨j + 1, by omega, by go_num, K5.out, P.out⟩
              case measure => simp [intOf]; omega
            · have q2 : decide (dd ≤ ek) = false := decide_eq_false h2
              have P := hid_of (MISS2.out (fun t => h2 t.2))
              have KF := hid_of (HK2.out.trans K5.out)
              clear HIT2 MISS2 h1 h2
              go_wp2_with (go_at_call 51; refine (must_no _).mono ?_; rintro e w' ⟨rfl, rfl⟩)
              exact ⟨rfl, KF.out, .inr ⟨P.out, rfl⟩⟩
          · have q1 : decide (nk ≤ dd) = false := decide_eq_false h1
            have P := hid_of (MISS2.out (fun t => h1 t.1))
            have KF := hid_of (HK2.out.trans K5.out)
            clear HIT2 MISS2 h1
            go_wp2_with (go_at_call 51; refine (must_no _).mono ?_; rintro e w' ⟨rfl, rfl⟩)
            exact ⟨rfl, KF.out, .inr ⟨P.out, rfl⟩⟩
        · obtain rfl : j = n := by omega
          have P := hid_of (HIT.out ⟨by rw [← HLN.out]; exact POK.out, by rw [Int.toNat_natCast]; exact HZ.out, HNO2.out⟩)
          have KF := hid_of (K12.out.trans K3)
          clear HIT MISS K3
          go_wp2_with fail
          go_roundw
          case rel => exact ⟨k + 1, by omega, by go_num, KF.out, P.out⟩
          case measure => simp [intOf]; omega
    · obtain rfl : k = nd := by omega
      clear K w0 w1
      go_wp2
      exact bodyPost_end (v := .tuple #[]) (by simp [results, Tryd.results84]) rfl ⟨KH.out, .inl ⟨⟨rfl, HNO.out⟩, rfl⟩⟩
end Go.Proofs.YtpdppjngbbkbbaaDoor

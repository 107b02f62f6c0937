/- The look of Mean. -/
import Derived.Test.YtomopfjaebcpeaaPrK
import Derived.Test.YtomopfjaebcpeaaRatioB
namespace Go.Proofs.Ytomopfjaebcpeaa
open Go.RowKit

theorem pigeon : ∀ (n L : Nat) (f : Nat → Nat), (∀ j, j < L → f j < n) → (∀ k, k < L → ∀ j, j < k → f j ≠ f k) → L ≤ n
  | 0, L, f, hr, _ => by
    by_cases h : L = 0
    · omega
    · have := hr 0 (by omega); omega
  | n + 1, L, f, hr, hi => by
    by_cases h : ∃ j0, j0 < L ∧ f j0 = n
    · obtain ⟨j0, h0, e0⟩ := h
      have := pigeon n (L - 1) (fun j => if j < j0 then f j else f (j + 1)) (fun j hj => by
        show (if j < j0 then f j else f (j + 1)) < n
        split
        · rename_i h
          have h1 := hr j (by omega)
          have h2 := hi j0 h0 j h
          omega
        · rename_i h
          have h1 := hr (j + 1) (by omega)
          have h2 := hi (j + 1) (by omega) j0 (by omega)
          omega) (fun k hk j hj => by
        show (if j < j0 then f j else f (j + 1)) ≠ (if k < j0 then f k else f (k + 1))
        split <;> split
        · exact hi k (by omega) j hj
        · exact hi (k + 1) (by omega) j (by omega)
        · omega
        · exact hi (k + 1) (by omega) (j + 1) (by omega))
      omega
    · have := pigeon n L f (fun j hj => by
        have h1 := hr j hj
        have h2 : f j ≠ n := fun e => h ⟨j, hj, e⟩
        omega) hi
      omega

/-- What a circle's first k edges cost together. -/
def csum (es : List Ed) (c : List Int) (k : Nat) : Int := sm (fun j => (edAt es (zAt c j).toNat).k) k
theorem csum_succ (es : List Ed) (c : List Int) (k : Nat) : csum es c (k + 1) = csum es c k + (edAt es (zAt c k).toNat).k := rfl
theorem csum_bd {N n : Nat} {es : List Ed} (RG : Right N n es) {c : List Int} {L : Nat} (hr : ∀ j, j < L → 0 ≤ zAt c j ∧ zAt c j < (n : Int)) (k : Nat) (hk : k ≤ L) : -(1048576 * (k : Int)) ≤ csum es c k ∧ csum es c k ≤ 1048576 * (k : Int) :=
  sm_bd fun j hj => by
    have := hr j (by omega)
    exact RG.costs (zAt c j).toNat (by omega)
theorem CircOk.most {N n : Nat} {es : List Ed} (RG : Right N n es) {c : List Int} {L : Nat} (h : CircOk es n c L) : L ≤ N := by
  refine pigeon N L (fun j => (frm es c j).toNat) (fun j hj => ?_) (fun k hk j hj => ?_)
  · have h1 := h.rng j hj
    have h2 := RG.ends (zAt c j).toNat (by omega)
    show (frm es c j).toNat < N
    unfold frm
    omega
  · have h1 := h.rng j (by omega)
    have h2 := RG.ends (zAt c j).toNat (by omega)
    have h3 := h.rng k hk
    have h4 := RG.ends (zAt c k).toNat (by omega)
    have h5 := h.sole k hk j hj
    show (frm es c j).toNat ≠ (frm es c k).toNat
    unfold frm at h5 ⊢
    omega

/-- What a circle and potentials must be to be proved least. -/
def MeanOk (es : List Ed) (N n : Nat) (c : List Int) (L : Nat) (pot : List Int) (mp : Nat) : Prop :=
  CircOk es n c L ∧ PotsOk pot mp N ∧ ∀ i, i < n → csum es c L ≤ (L : Int) * (edAt es i).k + zAt pot (edAt es i).f.toNat - zAt pot (edAt es i).t.toNat

/-- A box of two. -/
structure Box2 (w : World) (fb : Nat) (a b : Value) : Prop where
  f0 : w.cell? ⟨fb, 0, none⟩ = some a
  f1 : w.cell? ⟨fb, 1, none⟩ = some b
theorem Box2.kept {w w' : World} {fb : Nat} {a b : Value} (h : Box2 w fb a b) (K : Kept w w') : Box2 w' fb a b := ⟨K.cell h.f0, K.cell h.f1⟩

set_option maxRecDepth 100000 in
set_option linter.unusedSimpArgs false in
set_option maxHeartbeats 4000000 in
theorem meanLook_calls (fb gb vb : Nat) (co : Option Addr) (L cc : Nat) (c : List Int) (po : Option Addr) (mp pc : Nat) (pot : List Int) (N : Nat) (ao : Option Addr) (n cap : Nat) (es : List Ed) (w : World) (hF : Box2 w fb (.slice co L cc) (.slice po mp pc)) (hG : GBox w gb (N : Int) ao n cap)
    (x0 x1 : Value) (hv : Box2 w vb x0 x1) (hvf : ∀ o, w.frozen? ⟨vb, o, none⟩ = false) (h : ERow w ao n cap es) (hJ : JRow w co L cc c) (hP : JRow w po mp pc pot) (RG : Right N n es) :
    Calls Try.prog 65 #[.pointer (some ⟨fb, 0, none⟩), .pointer (some ⟨gb, 0, none⟩), .pointer (some ⟨vb, 0, none⟩)] w fun e w' =>
      (MeanOk es N n c L pot mp ∧ e = .returned (.tuple #[]) ∧ ∃ p q wx, Lowest (csum es c L) (L : Int) p q ∧ Kept w wx ∧ w' = (wx.setCell ⟨vb, 0, none⟩ (.int .i64 p)).setCell ⟨vb, 1, none⟩ (.int .i64 q)) ∨ (¬ MeanOk es N n c L pot mp ∧ e = .panicked [{ v := .iface 136 (.agg #[.int .i64 221]), recovered := false }] ∧ Kept w w') := by
  obtain ⟨f0, f1⟩ := hF
  obtain ⟨g0, g1⟩ := hG
  have hN := RG.nodes
  have HE := hid_of h
  have HJ := hid_of hJ
  have HP := hid_of hP
  have RGH := hid_of RG
  have HV := hid_of hv
  have HVF := hid_of hvf
  have hr2 := hJ.room
  have hm2 := hJ.most
  have hr3 := hP.room
  have hm3 := hP.most
  have hr4 := h.room
  have hm4 := h.most
  unfold maxLen at hm2 hm3 hm4
  have C0 := hid_of (circ_calls ao N n cap es co L cc c w h hJ RG)
  clear h hJ hP RG hv hvf
  go_enter Try.func65, Try.ntmps65
  go_wp2_with fail
  refine C0.out.mono ?_
  rintro e wa ⟨K1, ⟨cok, rfl⟩ | ⟨cok, rfl⟩⟩
  rotate_left
  · have HK := hid_of K1
    clear f0 f1 g0 g1 K1 C0
    go_wp2
    exact ⟨rfl, .inr ⟨fun t => cok t.1, rfl, HK.out⟩⟩
  replace f0 := K1.cell f0
  replace f1 := K1.cell f1
  replace g0 := K1.cell g0
  replace g1 := K1.cell g1
  have HK := hid_of K1
  have COK := hid_of cok
  clear K1 C0 cok
  go_wp2_with fail
  refine (mustPot_calls N (.slice ao n cap) po mp pc pot wa (HP.out.kept HK.out)).mono ?_
  rintro e wb ⟨K2, ⟨pok, rfl⟩ | ⟨pok, rfl⟩⟩
  rotate_left
  · have HK2 := hid_of (HK.out.trans K2)
    clear f0 f1 g0 g1 HK K2
    go_wp2
    exact ⟨rfl, .inr ⟨fun t => pok t.2.1, rfl, HK2.out⟩⟩
  replace f0 := K2.cell f0
  replace f1 := K2.cell f1
  replace g0 := K2.cell g0
  replace g1 := K2.cell g1
  have HK2 := hid_of (HK.out.trans K2)
  have POK := hid_of pok
  clear K2 HK pok
  obtain rfl : mp = N := POK.out.1
  have hLN := COK.out.most RGH.out
  go_wp2_with fail
  go_loopw [4, 6, 23] (fun s _ i wr => ∃ (k : Nat), k ≤ L ∧ i = .int .i64 k ∧ s = .int .i64 (csum es c k) ∧ wb = wr) (fun _ _ i _ => L - (intOf i).toNat)
  case atStart => exact ⟨0, by omega, rfl, rfl, rfl⟩
  case round =>
    obtain ⟨k, hk, rfl, rfl, rfl⟩ := hrel
    obtain ⟨s1, s2⟩ := csum_bd RGH.out COK.out.rng k hk
    by_cases hgo : (k : Int) < (L : Int)
    · obtain ⟨b2, off2, rfl, hc2⟩ := (HJ.out.kept HK2.out).at (by omega)
      have d5 := hc2 k (by omega)
      obtain ⟨x1', x2'⟩ := COK.out.rng k (by omega)
      obtain ⟨xj, hxj⟩ : ∃ x : Nat, zAt c k = (x : Int) := ⟨(zAt c k).toNat, by omega⟩
      have hxn : xj < n := by omega
      have hxni : (xj : Int) < (n : Int) := by omega
      obtain ⟨b, off, rfl, hc⟩ := (HE.out.kept HK2.out).cell (by omega)
      obtain ⟨d1, d2, d3, d4⟩ := hc xj hxn
      obtain ⟨l1, l2⟩ := RGH.out.costs xj hxn
      have SU := hid_of (csum_succ es c k)
      rw [hxj] at d5 SU
      rw [Int.toNat_natCast] at SU
      have s1' : -1073741824 ≤ csum es c k := by omega
      have s2' : csum es c k ≤ 1073741824 := by omega
      clear hc2 hc s1 s2 x1' x2' hxj d1 d2 d3
      generalize csum es c k = s at SU s1' s2'
      generalize (edAt es xj).k = y at d4 l1 l2 SU
      have WR : IntKind.i64.wrap (s + y) = s + y := wrap_id (by omega) (by omega)
      go_wp2_with fail
      go_roundw
      case rel => exact ⟨k + 1, by omega, by go_num, by rw [SU.out], by trivial⟩
      case measure => simp [intOf]; omega
    · obtain rfl : k = L := by omega
      have s1' : -1073741824 ≤ csum es c k := by omega
      have s2' : csum es c k ≤ 1073741824 := by omega
      have hL0 := COK.out.pos
      have OKI : Hid ((∀ i, i < n → csum es c k ≤ (k : Int) * (edAt es i).k + zAt pot (edAt es i).f.toNat - zAt pot (edAt es i).t.toNat) → MeanOk es mp n c k pot mp) := fun t => ⟨COK.out, POK.out, t⟩
      have NOK : Hid (∀ i, i < n → ¬ csum es c k ≤ (k : Int) * (edAt es i).k + zAt pot (edAt es i).f.toNat - zAt pot (edAt es i).t.toNat → ¬ MeanOk es mp n c k pot mp) := fun i hi t q => t (q.2.2 i hi)
      have RT := hid_of (fun w' => ratio_calls (csum es c k) (k : Int) w' (by omega) (by omega) (by omega) (by omega) (by omega))
      clear s1 s2
      obtain ⟨S, hS⟩ : ∃ S, csum es c k = S := ⟨_, rfl⟩
      rw [hS] at OKI NOK RT s1' s2' ⊢
      have HS := hid_of hS
      clear hS
      go_wp2_with fail
      go_loopw [8, 39] (fun _ i wr => ∃ (j : Nat), j ≤ n ∧ i = .int .i64 j ∧ Kept wb wr ∧ ∀ q, q < j → S ≤ (k : Int) * (edAt es q).k + zAt pot (edAt es q).f.toNat - zAt pot (edAt es q).t.toNat) (fun _ i _ => n - (intOf i).toNat)
      case atStart => exact ⟨0, by omega, rfl, Kept.refl _, fun i hi => by omega⟩
      case round =>
        obtain ⟨j, hj, rfl, K, hno⟩ := hrel
        have HNO := hid_of hno
        clear hno
        replace f1 := K.cell f1
        by_cases hgo2 : (j : Int) < (n : Int)
        · obtain ⟨b, off, rfl, hc⟩ := (HE.out.kept (HK2.out.trans K)).cell (by omega)
          obtain ⟨d1, d2, d3, d4⟩ := hc j (by omega)
          obtain ⟨e1, e2, e3, e4⟩ := RGH.out.ends j (by omega)
          obtain ⟨l1, l2⟩ := RGH.out.costs j (by omega)
          obtain ⟨b2, off2, rfl, hc2⟩ := (HP.out.kept (HK2.out.trans K)).at (by omega)
          have d5 := hc2 (edAt es j).f.toNat (by omega)
          have d6 := hc2 (edAt es j).t.toNat (by omega)
          obtain ⟨p1, p2⟩ := POK.out.2 (edAt es j).f.toNat (by omega)
          obtain ⟨p3, p4⟩ := POK.out.2 (edAt es j).t.toNat (by omega)
          clear hc hc2
          have HIT : Hid (S ≤ (k : Int) * (edAt es j).k + zAt pot (edAt es j).f.toNat - zAt pot (edAt es j).t.toNat → ∀ q, q < j + 1 → S ≤ (k : Int) * (edAt es q).k + zAt pot (edAt es q).f.toNat - zAt pot (edAt es q).t.toNat) := fun hb i hi => by
            by_cases e : i = j
            · subst e; exact hb
            · exact HNO.out i (by omega)
          have MISS := hid_of (NOK.out j (by omega))
          obtain ⟨m1, m2⟩ : -1073741824 ≤ (k : Int) * (edAt es j).k ∧ (k : Int) * (edAt es j).k ≤ 1073741824 := by
            have := mul_bd (x := (edAt es j).k) (y := (k : Int)) (X := 1048576) (Y := 1024) (by omega) l1 l2 (by omega) (by omega)
            rw [Int.mul_comm]
            omega
          generalize edAt es j = e at d1 d2 d3 d4 d5 d6 e1 e2 e3 e4 l1 l2 p1 p2 p3 p4 HIT MISS m1 m2
          obtain ⟨ef, et, ec, ek⟩ := e
          simp only at d1 d2 d3 d4 d5 d6 e1 e2 e3 e4 l1 l2 p1 p2 p3 p4 HIT MISS m1 m2
          obtain ⟨fn, rfl⟩ : ∃ fn : Nat, ef = (fn : Int) := ⟨ef.toNat, by omega⟩
          obtain ⟨tn, rfl⟩ : ∃ tn : Nat, et = (tn : Int) := ⟨et.toNat, by omega⟩
          simp only [Int.toNat_natCast] at d5 d6 p1 p2 p3 p4 HIT MISS
          generalize zAt pot fn = x at d5 p1 p2 HIT MISS
          generalize zAt pot tn = y at d6 p3 p4 HIT MISS
          have WR : IntKind.i64.wrap (IntKind.i64.wrap (IntKind.i64.wrap ((k : Int) * ek) + x) - y) = (k : Int) * ek + x - y := by
            rw [wrap_id (x := (k : Int) * ek) (by omega) (by omega), wrap_id (x := (k : Int) * ek + x) (by omega) (by omega), wrap_id (by omega) (by omega)]
          clear m1 m2 l1 l2 p1 p2 p3 p4
          generalize (k : Int) * ek + x - y = tot at WR HIT MISS
          have KE := hid_of (K.alloc (Obj.cells #[.int .i64 (fn : Int), .int .i64 (tn : Int), .int .i64 ec, .int .i64 ek] 98))
          have KA := (Kept.refl wr).alloc (Obj.cells #[.int .i64 (fn : Int), .int .i64 (tn : Int), .int .i64 ec, .int .i64 ek] 98)
          replace d5 := KA.cell d5
          replace d6 := KA.cell d6
          replace f1 := KA.cell f1
          have a0 : (wr.alloc (Obj.cells #[.int .i64 (fn : Int), .int .i64 (tn : Int), .int .i64 ec, .int .i64 ek] 98)).cell? ⟨wr.heap.size, 0, none⟩ = some (.int .i64 (fn : Int)) := by simp [go_sem]
          have a1 : (wr.alloc (Obj.cells #[.int .i64 (fn : Int), .int .i64 (tn : Int), .int .i64 ec, .int .i64 ek] 98)).cell? ⟨wr.heap.size, 1, none⟩ = some (.int .i64 (tn : Int)) := by simp [go_sem]
          have a3 : (wr.alloc (Obj.cells #[.int .i64 (fn : Int), .int .i64 (tn : Int), .int .i64 ec, .int .i64 ek] 98)).cell? ⟨wr.heap.size, 3, none⟩ = some (.int .i64 ek) := by simp [go_sem]
          clear KA K
          go_wp2_with fail
          generalize wr.alloc (Obj.cells #[.int .i64 (fn : Int), .int .i64 (tn : Int), .int .i64 ec, .int .i64 ek] 98) = W2 at KE d5 d6 f1 a0 a1 a3 ⊢
          clear d1 d2 d3 d4
          by_cases hle : S ≤ tot
          · have P := hid_of (HIT.out hle)
            have qd : decide (S ≤ tot) = true := decide_eq_true hle
            clear HIT MISS
            refine Ord.region [(0, 0), (1, 0), (2, 1), (3, 0), (4, 0), (5, 1), (6, 0), (7, 1), (8, 0), (9, 1), (10, 0), (11, 0), (12, 1), (13, 0), (14, 1), (15, 0), (16, 1), (17, 0), (18, 0), (19, 0), (20, 2)] (fun w' => Kept W2 w') (by kernel_rfl) (by kernel_rfl) (by kernel_rfl) (by kernel_rfl) (fun _ _ d _ _ h => by cases d <;> exact h) ((Kept.refl _).drewN _) ?_
            repeat
              refine Ord.step rfl (fun Ko hK => ?_)
              simp only [Ord.body]
              go_simp
              first
                | (refine hK _ _ ?_; clear hK Ko)
                | (refine ⟨_, fun w' hS => (by have c0 := hS.cell f1; have c1 := hS.cell d5; have c2 := hS.cell d6; have c3 := hS.cell a0; have c4 := hS.cell a1; have c5 := hS.cell a3; simp only [c0, c1, c2, c3, c4, c5, Result.andThen]; rfl), hK _ _ ?_⟩; clear hK Ko)
                | ((rw [WR]))
                | (go_at_call 53; refine (must_ok _).mono ?_; rintro e w' ⟨rfl, rfl⟩; refine ⟨(Kept.refl _).drewN _, hK _ _ ?_⟩; clear hK Ko)
            refine Ord.done ?_
            go_wp2
            go_roundw
            case rel => exact ⟨j + 1, by omega, by go_num, KE.out.drewN _, P.out⟩
            case measure => simp [intOf]; omega
          · have P := hid_of (MISS.out (by omega))
            have qd : decide (S ≤ tot) = false := decide_eq_false hle
            clear HIT MISS
            refine Ord.region [(0, 0), (1, 0), (2, 1), (3, 0), (4, 0), (5, 1), (6, 0), (7, 1), (8, 0), (9, 1), (10, 0), (11, 0), (12, 1), (13, 0), (14, 1), (15, 0), (16, 1), (17, 0), (18, 0), (19, 0), (20, 2)] (fun w' => Kept W2 w') (by kernel_rfl) (by kernel_rfl) (by kernel_rfl) (by kernel_rfl) (fun _ _ d _ _ h => by cases d <;> exact h) ((Kept.refl _).drewN _) ?_
            repeat
              refine Ord.step rfl (fun Ko hK => ?_)
              simp only [Ord.body]
              go_simp
              first
                | (refine hK _ _ ?_; clear hK Ko)
                | (refine ⟨_, fun w' hS => (by have c0 := hS.cell f1; have c1 := hS.cell d5; have c2 := hS.cell d6; have c3 := hS.cell a0; have c4 := hS.cell a1; have c5 := hS.cell a3; simp only [c0, c1, c2, c3, c4, c5, Result.andThen]; rfl), hK _ _ ?_⟩; clear hK Ko)
                | ((rw [WR]))
                | (go_at_call 53; refine (must_no _).mono ?_; rintro e w' ⟨rfl, rfl⟩)
            go_simp
            exact ⟨rfl, .inr ⟨P.out, rfl, HK2.out.trans (KE.out.drewN _)⟩⟩
        · obtain rfl : j = n := by omega
          have P := hid_of (OKI.out HNO.out)
          have HK5 := hid_of (HK2.out.trans K)
          clear OKI NOK HNO K f1
          go_wp2_with fail
          refine (RT.out _).mono ?_
          rintro e w6 ⟨hre, K6⟩
          have HK6 := hid_of (HK5.out.trans K6)
          rcases hre with ⟨_, hbad⟩ | ⟨p, q, rfl, hlow⟩
          · exfalso; omega
          have HLOW := hid_of hlow
          obtain ⟨v0, v1⟩ := HV.out.kept HK6.out
          have z0 := (Below.frozen (p := ⟨vb, 0, none⟩) HK6.out (lt_cell HV.out.f0)).trans (HVF.out 0)
          have z1 := (Below.frozen (p := ⟨vb, 1, none⟩) HK6.out (lt_cell HV.out.f1)).trans (HVF.out 1)
          clear HK5 K6 RT hlow
          go_wp2
          refine bodyPost_end (v := .tuple #[]) (by simp [results, Try.results65]) rfl (.inl ⟨P.out, rfl, p, q, _, ?_, HK6.out, rfl⟩)
          rw [HS.out]
          exact HLOW.out
end Go.Proofs.Ytomopfjaebcpeaa

/- The document's Place and Acyclic. -/
import Derived.Test.YtomopfjaebcpeaaPrU
import Derived.Test.YtomopfjaebcpeaaRfI
namespace Go.Proofs.Ytomopfjaebcpeaa
open Go.RowKit

theorem pl_first {o : List Int} {v : Int} {j m : Nat} (h : ∀ q, q < j → zAt o q ≠ v) (hj : j < m) (e : zAt o j = v) : plTo o m v = (j : Int) := by
  rcases plTo_facts o v m with ⟨-, h2⟩ | ⟨q, hq, h1, h2, h3⟩
  · exact absurd e (h2 j hj)
  · have a : ¬ q < j := fun t => h q t h2
    have b : ¬ j < q := fun t => h3 j t e
    have : q = j := by omega
    rw [h1, this]
theorem pl_none {o : List Int} {v : Int} {m : Nat} (h : ∀ q, q < m → zAt o q ≠ v) : plTo o m v = -1 := by
  rcases plTo_facts o v m with ⟨h1, -⟩ | ⟨q, hq, -, h2, -⟩
  · exact h1
  · exact absurd h2 (h q hq)

/-- As many different numbers below n as there are: each is there. -/
theorem onto_of_inj {n : Nat} {f : Nat → Nat} (hr : ∀ j, j < n → f j < n) (hi : ∀ k, k < n → ∀ j, j < k → f j ≠ f k) (v : Nat) (hv : v < n) : ∃ j, j < n ∧ f j = v := by
  apply Classical.byContradiction
  intro hno
  have := pigeon n (n + 1) (fun j => if j < n then f j else v) (fun j hj => by
    show (if j < n then f j else v) < n
    split
    · rename_i h; exact hr j h
    · exact hv) (fun k hk j hj => by
    show (if j < n then f j else v) ≠ (if k < n then f k else v)
    rw [if_pos (by omega : j < n)]
    split
    · rename_i h; exact hi k h j hj
    · intro e; exact hno ⟨j, by omega, e⟩)
  omega

/-- The same as the document has it. -/
def AcyDoc (es : List Ed) (N n : Nat) (o : List Int) (m : Nat) : Prop :=
  m = N ∧ (∀ v, v < N → 0 ≤ plTo o N (v : Int)) ∧ ∀ i, i < n → plTo o N (edAt es i).f < plTo o N (edAt es i).t

theorem acy_iff {N n : Nat} {es : List Ed} (RG : Right N n es) (o : List Int) (m : Nat) : AcyOk es N n o m ↔ AcyDoc es N n o m := by
  have key : ∀ (hp : ∀ v, v < N → 0 ≤ plTo o N (v : Int)), ((∀ i, i < n → plP o N (edAt es i).f.toNat < plP o N (edAt es i).t.toNat) ↔ ∀ i, i < n → plTo o N (edAt es i).f < plTo o N (edAt es i).t) := by
    intro hp
    have e : ∀ i, i < n → plP o N (edAt es i).f.toNat = plTo o N (edAt es i).f ∧ plP o N (edAt es i).t.toNat = plTo o N (edAt es i).t := fun i hi => by
      obtain ⟨h1, h2, h3, h4⟩ := RG.ends i hi
      have a : (((edAt es i).f.toNat : Nat) : Int) = (edAt es i).f := by omega
      have b : (((edAt es i).t.toNat : Nat) : Int) = (edAt es i).t := by omega
      unfold plP
      rw [if_pos (hp _ (by omega)), if_pos (hp _ (by omega)), a, b]
      exact ⟨rfl, rfl⟩
    exact ⟨fun h i hi => by have := h i hi; rw [(e i hi).1, (e i hi).2] at this; exact this, fun h i hi => by rw [(e i hi).1, (e i hi).2]; exact h i hi⟩
  constructor
  · rintro ⟨h1, h2, h3⟩
    have hp : ∀ v, v < N → 0 ≤ plTo o N (v : Int) := fun v hv => by
      obtain ⟨j, hj, e⟩ := onto_of_inj (n := N) (f := fun j => (zAt o j).toNat) (fun j hj => by have := h2 j hj; show (zAt o j).toNat < N; omega) (fun k hk j hj => by
        show (zAt o j).toNat ≠ (zAt o k).toNat
        intro e
        have a := h2 k hk
        have b := h2 j (by omega)
        rcases plTo_facts o (zAt o k) k with ⟨-, g⟩ | ⟨q, -, g, -⟩
        · exact g j hj (by omega)
        · omega) v hv
      have a := h2 j hj
      have e2 : (zAt o j).toNat = v := e
      have e' : zAt o j = (v : Int) := by omega
      rcases plTo_facts o (v : Int) N with ⟨-, g⟩ | ⟨q, -, g, -⟩
      · exact absurd e' (g j hj)
      · omega
    exact ⟨h1, hp, (key hp).1 h3⟩
  · rintro ⟨h1, hp, h3⟩
    refine ⟨h1, fun j hj => ?_, (key hp).2 h3⟩
    obtain ⟨v, hv, e⟩ := onto_of_inj (n := N) (f := fun v => (plTo o N (v : Int)).toNat) (fun v hv => by
      show (plTo o N (v : Int)).toNat < N
      have := hp v hv
      rcases plTo_facts o (v : Int) N with ⟨g, -⟩ | ⟨q, hq, g, -⟩ <;> omega) (fun k hk i hi => by
      show (plTo o N (i : Int)).toNat ≠ (plTo o N (k : Int)).toNat
      have a := hp k hk
      have b := hp i (by omega)
      rcases plTo_facts o (k : Int) N with ⟨g, -⟩ | ⟨q, hq, g, g2, -⟩
      · omega
      · rcases plTo_facts o (i : Int) N with ⟨r, -⟩ | ⟨s, hs, r, r2, -⟩
        · omega
        · intro t
          have : q = s := by omega
          subst this
          omega) j hj
    replace e : (plTo o N (v : Int)).toNat = j := e
    have a := hp v hv
    rcases plTo_facts o (v : Int) N with ⟨g, -⟩ | ⟨q, hq, g, g2, g3⟩
    · omega
    · have : q = j := by omega
      subst this
      rw [g2]
      exact ⟨by omega, pl_none g3⟩

set_option maxRecDepth 100000 in
set_option linter.unusedSimpArgs false in
set_option maxHeartbeats 1000000 in
theorem placeR_calls (oo : Option Addr) (m oc : Nat) (o : List Int) (v : Int) (w : World) (hO : JRow w oo m oc o) :
    Calls Try.prog 69 #[.slice oo m oc, .int .i64 v] w fun e w' => w' = w ∧ e = .returned (.int .i64 (plTo o m v)) := by
  have hr := hO.room
  have hm := hO.most
  unfold maxLen at hm
  have HO := hid_of hO
  clear hO
  go_enter Try.func69, Try.ntmps69
  go_wp2_with fail
  go_loopw [5] (fun i wr => wr = w ∧ ∃ (j : Nat), j ≤ m ∧ i = .int .i64 j ∧ ∀ q, q < j → zAt o q ≠ v) (fun i _ => m - (intOf i).toNat)
  case atStart => exact ⟨rfl, 0, by omega, rfl, fun i hi => by omega⟩
  case round =>
    obtain ⟨rfl, j, hj, rfl, hno⟩ := hrel
    have HNO := hid_of hno
    clear hno
    by_cases hgo : (j : Int) < (m : Int)
    · obtain ⟨b, off, rfl, hc⟩ := HO.out.at (by omega)
      have d1 := hc j (by omega)
      clear hc
      by_cases e : zAt o j = v
      · have P : Hid (plTo o m v = (j : Int)) := pl_first HNO.out (by omega) e
        rw [e] at d1
        clear HNO e
        go_wp2_with fail
        go_ret
        exact ⟨rfl, by rw [P.out]; rfl⟩
      · have P : Hid (∀ q, q < j + 1 → zAt o q ≠ v) := fun q hq => by
          by_cases eq : q = j
          · subst eq; exact e
          · exact HNO.out q (by omega)
        generalize zAt o j = x at d1 e
        have qe : (x == v) = false := by simpa using e
        clear HNO
        go_wp2_with fail
        go_roundw
        case rel => exact ⟨by trivial, j + 1, by omega, by go_num, P.out⟩
        case measure => simp [intOf]; omega
    · obtain rfl : j = m := by omega
      have P := hid_of (pl_none HNO.out)
      clear HNO
      go_wp2_with fail
      go_ret
      exact ⟨rfl, by rw [P.out]; rfl⟩

set_option maxRecDepth 100000 in
set_option linter.unusedSimpArgs false in
set_option maxHeartbeats 4000000 in
theorem acycR_calls (nodes : Int) (ao : Option Addr) (n cap : Nat) (es : List Ed) (oo : Option Addr) (k oc : Nat) (o : List Int) (w : World) (h : ERow w ao n cap es) (hO : JRow w oo k oc o) (z : Int) (hans : Hid (acycAns nodes es n o k = z)) :
    Calls Try.prog 25 #[.agg #[.int .i64 nodes, .slice ao n cap], .slice oo k oc] w fun e w' => e = .returned (.int .i64 z) ∧ Kept w w' := by
  obtain ⟨c, a, hf⟩ : ∃ c a, faultOf nodes es = (c, a) := ⟨_, _, rfl⟩
  replace hans := hans.out
  unfold acycAns at hans
  rw [hf] at hans
  have hr := h.room
  have hm := h.most
  have hr2 := hO.room
  have hm2 := hO.most
  unfold maxLen at hm hm2
  have KW : Kept w (w.alloc (Obj.cells #[.int .i64 nodes, .slice ao n cap] 24)) := (Kept.refl w).alloc _
  have w0 : (w.alloc (Obj.cells #[.int .i64 nodes, .slice ao n cap] 24)).cell? ⟨w.heap.size, 0, none⟩ = some (.int .i64 nodes) := by simp [go_sem]
  have w1 : (w.alloc (Obj.cells #[.int .i64 nodes, .slice ao n cap] 24)).cell? ⟨w.heap.size, 1, none⟩ = some (.slice ao n cap) := by simp [go_sem]
  have CH := hid_of (checkR_calls nodes ao n cap es _ (h.kept KW) c a (hid_of hf))
  have HE := hid_of h
  have HO := hid_of hO
  have hlen := h.len
  clear h hO
  by_cases hc : c = 0
  rotate_left
  · rw [if_pos hc] at hans
    subst hans
    have q : (c != 0) = true := by simpa using hc
    clear hc hf hlen
    go_enter Try.func25, Try.ntmps25
    go_wp2_with fail
    refine CH.out.mono ?_
    rintro e wa ⟨rfl, K1⟩
    have HK := hid_of (KW.trans K1)
    clear KW K1 CH w0 w1
    go_wp2
    go_ret
    exact ⟨rfl, HK.out⟩
  subst hc
  rw [if_neg (by simp)] at hans
  obtain ⟨N, rfl, RG⟩ := right_of (fault_zero (by rw [hf]))
  rw [← hlen] at RG
  simp only [Int.toNat_natCast] at hans
  have hAI := acy_iff RG o k
  have HA := hid_of hans
  have RGH := hid_of RG
  have hN := RG.nodes
  have hn := RG.edges
  clear hans hf hlen RG
  by_cases hkN : k = N
  rotate_left
  · have e := HA.out
    rw [if_neg (fun t => hkN t.1)] at e
    subst e
    have q : ((k : Int) != (N : Int)) = true := by simp; omega
    clear HA
    go_enter Try.func25, Try.ntmps25
    go_wp2_with fail
    refine CH.out.mono ?_
    rintro e wa ⟨rfl, K1⟩
    have HK := hid_of (KW.trans K1)
    replace w0 := K1.cell w0
    clear KW K1 CH
    go_wp2
    go_ret
    exact ⟨rfl, HK.out⟩
  subst hkN
  have NOK : Hid (¬ AcyDoc es k n o k → z = 221) := fun hb => by
    have e := HA.out
    rw [if_neg (fun t => hb (hAI.1 t))] at e
    exact e.symm
  have YOK : Hid (AcyDoc es k n o k → z = 0) := fun hb => by
    have e := HA.out
    rw [if_pos (hAI.2 hb)] at e
    exact e.symm
  clear HA hAI
  have qkk : ((k : Int) != (k : Int)) = false := by simp
  go_enter Try.func25, Try.ntmps25
  go_wp2_with fail
  refine CH.out.mono ?_
  rintro e wa ⟨rfl, K1⟩
  have HK := hid_of (KW.trans K1)
  replace w0 := K1.cell w0
  replace w1 := K1.cell w1
  clear KW K1 CH
  go_wp2_with fail
  go_loopw [7] (fun i wr => wa = wr ∧ ∃ (j : Nat), j ≤ k ∧ i = .int .i64 j ∧ ∀ v, v < j → 0 ≤ plTo o k (v : Int)) (fun i _ => k - (intOf i).toNat)
  case atStart => exact ⟨rfl, 0, by omega, rfl, fun i hi => by omega⟩
  case round =>
    obtain ⟨rfl, j, hj, rfl, hno⟩ := hrel
    have HNO := hid_of hno
    clear hno
    by_cases hgo : (j : Int) < (k : Int)
    · have PL := hid_of (placeR_calls oo k oc o (j : Int) wa (HO.out.kept HK.out))
      have HIT : Hid (0 ≤ plTo o k (j : Int) → ∀ v, v < j + 1 → 0 ≤ plTo o k (v : Int)) := fun hb v hv => by
        by_cases e : v = j
        · subst e; exact hb
        · exact HNO.out v (by omega)
      have MISS : Hid (¬ 0 ≤ plTo o k (j : Int) → z = 221) := fun hb => NOK.out (fun t => hb (t.2.1 j (by omega)))
      generalize plTo o k (j : Int) = x at PL HIT MISS
      clear HNO
      go_wp2_with fail
      refine PL.out.mono ?_
      rintro e w5 ⟨rfl, rfl⟩
      clear PL
      by_cases hx : 0 ≤ x
      · have P := hid_of (HIT.out hx)
        have qx : decide (x < 0) = false := by simpa using hx
        clear HIT MISS
        go_wp2_with fail
        go_roundw
        case rel => exact ⟨by trivial, j + 1, by omega, by go_num, P.out⟩
        case measure => simp [intOf]; omega
      · have P : Hid (z = 221) := MISS.out (by omega)
        have qx : decide (x < 0) = true := by simpa using hx
        clear HIT MISS
        go_wp2_with fail
        go_ret
        exact ⟨by rw [P.out]; rfl, HK.out⟩
    · obtain rfl : j = k := by omega
      have ALL := hid_of HNO.out
      clear HNO
      go_wp2_with fail
      go_loopw [8] (fun i wr => Kept wa wr ∧ ∃ (q : Nat), q ≤ n ∧ i = .int .i64 q ∧ ∀ u, u < q → plTo o j (edAt es u).f < plTo o j (edAt es u).t) (fun i _ => n - (intOf i).toNat)
      case atStart => exact ⟨Kept.refl _, 0, by omega, rfl, fun i hi => by omega⟩
      case round =>
        obtain ⟨KR, q, hq, rfl, hok⟩ := hrel
        have HOK := hid_of hok
        clear hok
        have HK2 := hid_of (HK.out.trans KR)
        have v1 := KR.cell w1
        by_cases hgo : (q : Int) < (n : Int)
        · obtain ⟨b, off, rfl, hc⟩ := (HE.out.kept HK2.out).cell (by omega)
          obtain ⟨d1, d2, -, -⟩ := hc q (by omega)
          obtain ⟨e1, e2, e3, e4⟩ := RGH.out.ends q (by omega)
          have HIT : Hid (plTo o j (edAt es q).f < plTo o j (edAt es q).t → ∀ u, u < q + 1 → plTo o j (edAt es u).f < plTo o j (edAt es u).t) := fun hb i hi => by
            by_cases e : i = q
            · subst e; exact hb
            · exact HOK.out i (by omega)
          have MISS : Hid (¬ plTo o j (edAt es q).f < plTo o j (edAt es q).t → z = 221) := fun hb => NOK.out (fun t => hb (t.2.2 q (by omega)))
          have PL : Hid (∀ x w', Kept wr w' → Calls Try.prog 69 #[.slice oo j oc, .int .i64 x] w' fun e w'' => w'' = w' ∧ e = .returned (.int .i64 (plTo o j x))) := fun x w' K => placeR_calls oo j oc o x w' (HO.out.kept (HK2.out.trans K))
          clear hc HOK
          generalize edAt es q = e at d1 d2 e1 e2 e3 e4 HIT MISS
          obtain ⟨ef, et, ec, ek⟩ := e
          simp only at d1 d2 e1 e2 e3 e4 HIT MISS
          go_upto_region 14 with fail
          refine Ord.region [(0, 0), (1, 0), (2, 1), (3, 0), (4, 0), (5, 0), (6, 1), (8, 0), (9, 0), (10, 1), (11, 0), (12, 0), (13, 0), (14, 1), (7, 2), (15, 2), (16, 0)] (fun w' => Kept wr w') (by kernel_rfl) (by kernel_rfl) (by kernel_rfl) (by kernel_rfl) (fun _ _ d _ _ h => by cases d <;> exact h) ((Kept.refl _).drewN _) ?_
          repeat
            refine Ord.step rfl (fun Ko hK => ?_)
            simp only [Ord.body]
            go_simp
            first
              | (refine hK _ _ ?_; clear hK Ko)
              | (refine ⟨_, fun w' hS => (by have c0 := hS.cell v1; have c1 := hS.cell d1; have c2 := hS.cell d2; simp only [c0, c1, c2, Result.andThen]; rfl), hK _ _ ?_⟩; clear hK Ko)
              | (go_at_call 69; refine (PL.out _ _ ((Kept.refl _).drewN _)).mono ?_; rintro e w5 ⟨rfl, rfl⟩; refine ⟨(Kept.refl _).drewN _, hK _ _ ?_⟩; clear hK Ko)
          refine Ord.done ?_
          generalize plTo o j ef = x at HIT MISS ⊢
          generalize plTo o j et = y at HIT MISS ⊢
          have KD := hid_of (KR.drewN 1)
          clear PL d1 d2 v1 KR
          by_cases hx : x < y
          · have P := hid_of (HIT.out hx)
            have qx : decide (y ≤ x) = false := by simpa using hx
            clear HIT MISS
            go_wp2_with fail
            go_roundw
            case rel => exact ⟨KD.out, q + 1, by omega, by go_num, P.out⟩
            case measure => simp [intOf]; omega
          · have P : Hid (z = 221) := MISS.out (by omega)
            have qx : decide (y ≤ x) = true := by simpa using hx
            clear HIT MISS
            go_wp2_with fail
            go_ret
            exact ⟨by rw [P.out]; rfl, HK.out.trans KD.out⟩
        · obtain rfl : q = n := by omega
          have P : Hid (z = 0) := YOK.out ⟨rfl, ALL.out, HOK.out⟩
          clear HOK
          go_wp2_with fail
          go_ret
          exact ⟨by rw [P.out]; rfl, HK2.out⟩
end Go.Proofs.Ytomopfjaebcpeaa

/- flood: the walk. -/
import Derived.Test.YtjheiaegpoppaaaWkC
namespace Go.Proofs.Ytjheiaegpoppaaa
open Go.RowKit

/-- A queue as numbers. -/
def qz (q : List Nat) : List Int := q.map fun (u : Nat) => (u : Int)
theorem qz_len (q : List Nat) : (qz q).length = q.length := by simp [qz]
theorem qz_snoc (q : List Nat) (u : Nat) : qz (q ++ [u]) = qz q ++ [(u : Int)] := by simp [qz]
theorem qz_get (q : List Nat) (i : Nat) (hi : i < q.length) : (qz q).getD i 0 = ((q.getD i 0 : Nat) : Int) := by simp [qz, List.getD, hi]

/-- What the flood asks of the function that it is handed. -/
def Enters (cl : Nat) (caps : Array Value) (Wb : World) (gl n : Nat) (val : (Nat → Int) → Nat → Int) (Ok : (Nat → Int) → Prop) : Prop :=
  ∀ (w : World) (lv : Nat → Int) (v x : Nat), IntsAt w gl n lv → Ch (fun k => k = gl) Wb w → v < n → x < n → 0 ≤ lv v → Ok lv →
    Calls Try.prog cl (#[.int .i64 (v : Int), .int .i64 (x : Int)] ++ caps) w fun r w' => r = .returned (.bool (decide (lv x < 0))) ∧ IntsAt w' gl n (if lv x < 0 then (fun j => if j = x then val lv v else lv j) else lv) ∧ Ch (fun k => k = gl) w w'

theorem NextAt.read {w : World} {B q n gl : Nat} {L : Nat → List Int} (h : NextAt w B q n L) (hgl : gl < B) (v : Nat) (hv : v < n) :
    ∃ so sc, w.cell? ⟨q, v, none⟩ = some (.slice so (L v).length sc) ∧ (L v).length ≤ sc ∧ sc ≤ maxLen ∧ (0 < (L v).length → ∃ b off, so = some ⟨b, off, none⟩ ∧ ¬ b = gl ∧ ∀ j, j < (L v).length → w.cell? ⟨b, off + j, none⟩ = some (.int .i64 ((L v).getD j 0))) := by
  obtain ⟨sv, r, ow, -, -⟩ := h.ex
  have o := ow v hv
  obtain ⟨so, sc, e⟩ := owns_slice1j o
  rw [e] at o
  have J := JRow.of_owns o
  refine ⟨so, sc, by rw [r.cell hv, e], J.room, J.most, fun hp => ?_⟩
  obtain ⟨b, off, e2, hc⟩ := J.cell hp
  refine ⟨b, off, e2, fun t => ?_, hc⟩
  have := (World.ownsRow.lt o b (by rw [e2]; rfl)).1
  omega

set_option maxRecDepth 100000 in
set_option maxHeartbeats 4000000 in
theorem floodL_calls (cap : Value) (Wb : World) (B gl q n : Nat) (hn : n ≤ 1024) (val : (Nat → Int) → Nat → Int) (Ok : (Nat → Int) → Prop) (L : Nat → List Int) (hLl : Hid (∀ v, v < n → (L v).length ≤ 4096)) (hL : Hid (∀ v, v < n → ∀ t ∈ L v, 0 ≤ t ∧ t < (n : Int))) (hval : Hid (∀ (lv : Nat → Int) v, 0 ≤ lv v → 0 ≤ val lv v))
    (s : Nat) (hs : s < n) (lv0 : Nat → Int) (h0 : Hid (0 ≤ lv0 s)) (HI : IntsAt Wb gl n lv0) (HN : NextAt Wb B q n L) (hgl : gl < B) (EN : Hid (Enters 44 #[cap] Wb gl n val Ok)) (hOk : Hid (∀ k j, k < n → (∀ i, i ≤ k → i < (it L val ⟨[s], lv0⟩ i).q.length) → Ok (itp L val ⟨[s], lv0⟩ k j).lv)) :
    Calls Try.prog 43 #[.slice (some ⟨q, 0, none⟩) n n, .int .i64 (s : Int), .func (.func 44) #[] #[cap]] Wb fun r w' => r = .returned (.tuple #[]) ∧ ∃ K, (∀ j, j < K → j < (it L val ⟨[s], lv0⟩ j).q.length) ∧ (it L val ⟨[s], lv0⟩ K).q.length = K ∧ IntsAt w' gl n (it L val ⟨[s], lv0⟩ K).lv ∧ Ch (fun k => k = gl) Wb w' := by
  obtain ⟨i0, hi, hz0, hz1, hz2⟩ := infoJ
  have hLt : Hid (∀ v, v < n → ∀ t ∈ L v, t.toNat < n) := fun v hv t ht => by have := hL.out v hv t ht; omega
  have Q0 : QOk n ⟨[s], lv0⟩ := ⟨by simp, fun u hu => by simp at hu; subst hu; exact hs, fun u hu => by simp at hu; subst hu; exact h0.out⟩
  have QI : Hid (∀ k j, (∀ j, j ≤ k → j < (it L val ⟨[s], lv0⟩ j).q.length) → QOk n (itp L val ⟨[s], lv0⟩ k j) ∧ (it L val ⟨[s], lv0⟩ k).q.getD k 0 ∈ (itp L val ⟨[s], lv0⟩ k j).q ∧ (it L val ⟨[s], lv0⟩ k).q.getD k 0 < n) := fun k j hk => QOk.itp hval.out hLt.out Q0 k j hk
  have QK : Hid (∀ k, (∀ j, j < k → j < (it L val ⟨[s], lv0⟩ j).q.length) → QOk n (it L val ⟨[s], lv0⟩ k)) := fun k hk => QOk.it hval.out hLt.out Q0 k hk
  clear Q0
  have RD : Hid (∀ v, v < n → ∃ so sc, Wb.cell? ⟨q, v, none⟩ = some (.slice so (L v).length sc) ∧ (L v).length ≤ sc ∧ sc ≤ maxLen ∧ (0 < (L v).length → ∃ b off, so = some ⟨b, off, none⟩ ∧ ¬ b = gl ∧ ∀ j, j < (L v).length → Wb.cell? ⟨b, off + j, none⟩ = some (.int .i64 ((L v).getD j 0)))) := fun v hv => HN.read hgl v hv
  have hqg : ¬ q = gl := by have := HN.ge; omega
  have hgb : gl < Wb.heap.size := HI.lt
  obtain ⟨S0, hS0⟩ : ∃ S0, (⟨[s], lv0⟩ : Fl) = S0 := ⟨_, rfl⟩
  have HS0 := hid_of hS0
  rw [hS0] at QI QK hOk ⊢
  have it0 : it L val S0 0 = S0 := rfl
  clear hS0 HN
  have K1 : Kept Wb (Wb.alloc (.cells #[.int .i64 (s : Int)] 3)) := (Kept.refl Wb).alloc _
  have O1 := World.ownsRow_lit (base := Wb.heap.size) (e := 3) (size := 1) Wb #[.int .i64 (s : Int)] 1 (Nat.le_refl _) (by unfold maxLen; omega) rfl
  have I1 := hid_of (HI.kept K1)
  have O1H : Hid ((Wb.alloc (.cells #[.int .i64 (s : Int)] 3)).ownsRow Wb.heap.size 3 1 (.slice (some ⟨Wb.heap.size, 0, none⟩) 1 1) 1 (jvals (qz [s]))) := O1
  have C1 : Hid (Ch (fun k => k = gl) Wb (Wb.alloc (.cells #[.int .i64 (s : Int)] 3))) := Ch.of_kept K1
  clear O1 K1 HI
  go_enter Try.func43, Try.ntmps43
  go_wp2_with fail
  generalize hW1 : Wb.alloc (.cells #[.int .i64 (s : Int)] 3) = W1 at I1 O1H C1 ⊢
  clear hW1
  go_loopw [6, 7, 8, 10] (fun qv a _ _ wr => ∃ k : Nat, a = .int .i64 (k : Int) ∧ (∀ j, j < k → j < (it L val S0 j).q.length) ∧ IntsAt wr gl n (it L val S0 k).lv ∧ wr.ownsRow Wb.heap.size 3 1 qv (it L val S0 k).q.length (jvals (qz (it L val S0 k).q)) ∧ Ch (fun k => k = gl) Wb wr) (fun _ a _ _ _ => n - (intOf a).toNat)
  case atStart =>
    refine ⟨0, rfl, fun j hj => by omega, ?_, ?_, C1.out⟩
    · rw [it0, ← HS0.out]; exact I1.out
    · rw [it0, ← HS0.out]; exact O1H.out
  case round =>
    obtain ⟨k, rfl, hlt, IR, OR, CR⟩ := hrel
    clear I1 O1H C1
    have HLT := hid_of hlt
    have IRH := hid_of IR
    have CRH := hid_of CR
    have hql := (QK.out k hlt).len
    clear hlt IR
    obtain ⟨ql, hqle⟩ : ∃ ql, (it L val S0 k).q.length = ql := ⟨_, rfl⟩
    have HQL := hid_of hqle
    rw [hqle] at OR hql
    obtain ⟨qo, qc, rfl⟩ := owns_slice1j OR
    have hqr := (JRow.of_owns OR).room
    have hqm := (JRow.of_owns OR).most
    unfold maxLen at hqm
    by_cases hgo : (k : Int) < (ql : Int)
    · have HL2 : Hid (∀ j, j ≤ k → j < (it L val S0 j).q.length) := fun j hj => by
        by_cases e : j = k
        · subst e; rw [HQL.out]; omega
        · exact HLT.out j (by omega)
      obtain ⟨v, hv⟩ : ∃ v, (it L val S0 k).q.getD k 0 = v := ⟨_, rfl⟩
      have hvn : v < n := by rw [← hv]; exact (QI.out k 0 HL2.out).2.2
      obtain ⟨b0, off0, e0, hc0⟩ := (JRow.of_owns OR).cell (by omega)
      subst e0
      have c0 := hc0 k (by omega)
      rw [qz_get _ _ (by rw [HQL.out]; omega), hv] at c0
      clear hc0
      obtain ⟨so, sc, rd1, rd2, rd3, rd4⟩ := RD.out v hvn
      unfold maxLen at rd3
      have rd5 := CR.cell rd1 hqg
      have hlen := hLl.out v hvn
      obtain ⟨ll, hll⟩ : ∃ ll, (L v).length = ll := ⟨_, rfl⟩
      have HLL := hid_of hll
      rw [hll] at rd1 rd2 rd4 rd5 hlen
      have RD4 := hid_of rd4
      have ORH := hid_of OR
      have HV := hid_of hv
      have hvi : (v : Int) < (n : Int) := by omega
      clear rd4 rd1 OR CR hv hll hqle
      go_wp2_with fail
      have IS : Hid (∃ j : Nat, j ≤ ll ∧ (0 : Int) = (j : Int) ∧ IntsAt wr gl n (itp L val S0 k j).lv ∧ wr.ownsRow Wb.heap.size 3 1 (.slice (some ⟨b0, off0, none⟩) ql qc) (itp L val S0 k j).q.length (jvals (qz (itp L val S0 k j).q)) ∧ Ch (fun k => k = gl) Wb wr) :=
        ⟨0, by omega, rfl, by rw [itp_zero]; exact IRH.out, by rw [itp_zero, HQL.out]; exact ORH.out, CRH.out⟩
      clear IRH ORH CRH rd5 c0
      go_loopw [6, 10, 28] (fun qv _ i w2 => ∃ j : Nat, j ≤ ll ∧ i = .int .i64 (j : Int) ∧ IntsAt w2 gl n (itp L val S0 k j).lv ∧ w2.ownsRow Wb.heap.size 3 1 qv (itp L val S0 k j).q.length (jvals (qz (itp L val S0 k j).q)) ∧ Ch (fun k => k = gl) Wb w2) (fun _ _ i _ => ll - (intOf i).toNat)
      case atStart =>
        obtain ⟨j, h1, h2, h3⟩ := IS.out
        exact ⟨j, h1, by rw [h2], h3⟩
      case round =>
        obtain ⟨j, hj, rfl, I2, O2, C2⟩ := hrel
        clear IS
        by_cases hgo2 : (j : Int) < (ll : Int)
        · obtain ⟨b1, off1, e1, nb1, hc1⟩ := RD4.out (by omega)
          subst e1
          have c1 := C2.cell (hc1 j (by omega)) nb1
          have hmem : (L v).getD j 0 ∈ L v := by
            have : j < (L v).length := by rw [HLL.out]; omega
            simp [List.getD, this]
          have hxr := hL.out v hvn _ hmem
          obtain ⟨x, hx⟩ : ∃ x : Nat, (L v).getD j 0 = (x : Int) := ⟨((L v).getD j 0).toNat, by omega⟩
          have hxn : x < n := by rw [hx] at hxr; omega
          rw [hx] at c1
          obtain ⟨QO, QM, -⟩ := QI.out k j HL2.out
          rw [HV.out] at QM
          have SU := hid_of (itp_succ L val S0 k j (by rw [HV.out, HLL.out]; omega))
          rw [HV.out, hx] at SU
          have hkn : k < n := by omega
          have EC := hid_of (EN.out wr (itp L val S0 k j).lv v x I2 C2 hvn hxn (QO.pos v QM) (hOk.out k j hkn HL2.out))
          have hq4 := QO.len
          generalize itp L val S0 k j = S at I2 O2 EC SU QO hq4
          have QOH := hid_of QO
          have O2H := hid_of O2
          have C2H := hid_of C2
          have I2H := hid_of I2
          clear hc1 hmem hxr QM QO O2 I2 C2 hx
          by_cases hneg : S.lv x < 0
          · have hd : decide (S.lv x < 0) = true := by simp [hneg]
            rw [if_pos hneg, hd] at EC
            have ESU : ent val v S (x : Int) = ⟨S.q ++ [x], fun j => if j = x then val S.lv v else S.lv j⟩ := by
              unfold ent
              simp only [Int.toNat_natCast]
              rw [if_pos hneg]
            have SU2 := hid_of (SU.out.trans ESU)
            clear SU ESU hneg hd
            go_wp2_with fail
            refine EC.out.mono ?_
            rintro r w3 ⟨rfl, I3, C3⟩
            have O3 := C3.owns O2H.out (fun kk e t => by have := (O2H.out.lt kk e).1; omega)
            have C4 := C2H.out.trans C3
            have hw3 : Wb.heap.size ≤ w3.heap.size := C4.size
            have O3H := hid_of O3
            have I3H := hid_of I3
            have C4H := hid_of C4
            obtain ⟨ln, hln⟩ : ∃ ln, S.q.length = ln := ⟨_, rfl⟩
            rw [hln] at O3H hq4
            have HLN := hid_of hln
            have NW := hid_of (cell_newj w3 3 (.int .i64 (x : Int)))
            have HM := hid_of (World.ownsRow.alloc O3H.out (Obj.cells #[.int .i64 (x : Int)] 3))
            clear O3 I3 C3 C4 EC O2H C2H I2H hln
            go_wp2_with (at_builtin; refine wpList_append_own _ rfl _ _ 26 rfl Wb.heap.size 3 i0 (.int .i64 0) 1 8 Try.underlying26 hi hz0 hz1 hz2 rfl (by decide) _ _ _ rfl HM.out ⟨w3.heap.size, 0, none⟩ 1 1 [.int .i64 (x : Int)] rfl rfl NW.out (by intro u hu; simp at hu; subst hu; rfl) (by unfold maxLen; omega) (by omega) (by simp; omega) ?_)
            intro u' w4 hown hgrow _
            have K3 : Kept w3 (w3.alloc (Obj.cells #[.int .i64 (x : Int)] 3)) := (Kept.refl w3).alloc _
            have CG : Ch (fun k => Wb.heap.size ≤ k) w3 w4 := (Ch.of_kept K3).trans (Ch.of_grown hgrow (fun kk e => (O3H.out.lt kk e).1))
            have I4 : Hid (IntsAt w4 gl n (itp L val S0 k (j + 1)).lv) := by rw [SU2.out]; exact I3H.out.ch CG (by omega)
            have O4 : Hid (w4.ownsRow Wb.heap.size 3 1 u' (itp L val S0 k (j + 1)).q.length (jvals (qz (itp L val S0 k (j + 1)).q))) := by
              rw [SU2.out]
              show w4.ownsRow Wb.heap.size 3 1 u' (S.q ++ [x]).length (jvals (qz (S.q ++ [x])))
              rw [qz_snoc, ← jvals_snoc, List.length_append, HLN.out]
              exact hown
            have C5 : Hid (Ch (fun k => k = gl) Wb w4) := C4H.out.trans' CG (fun i hi => .inr hi)
            clear hown hgrow CG K3 HM NW O3H I3H C4H
            go_wp2_with fail
            go_roundw
            case rel => exact ⟨j + 1, by omega, by go_num, I4.out, O4.out, C5.out⟩
            case measure => simp [intOf]; omega
          · have hd : decide (S.lv x < 0) = false := by simp [hneg]
            rw [if_neg hneg, hd] at EC
            have ESU : ent val v S (x : Int) = S := by
              unfold ent
              simp only [Int.toNat_natCast]
              rw [if_neg hneg]
            have SU2 := hid_of (SU.out.trans ESU)
            clear SU ESU hneg hd
            go_wp2_with fail
            refine EC.out.mono ?_
            rintro r w3 ⟨rfl, I3, C3⟩
            have O4 : Hid (w3.ownsRow Wb.heap.size 3 1 u6 (itp L val S0 k (j + 1)).q.length (jvals (qz (itp L val S0 k (j + 1)).q))) := by
              rw [SU2.out]
              exact C3.owns O2H.out (fun kk e t => by have := (O2H.out.lt kk e).1; omega)
            have I4 : Hid (IntsAt w3 gl n (itp L val S0 k (j + 1)).lv) := by rw [SU2.out]; exact I3
            have C5 := hid_of (C2H.out.trans C3)
            clear I3 C3 EC O2H C2H I2H
            go_wp2_with fail
            go_roundw
            case rel => exact ⟨j + 1, by omega, by go_num, I4.out, O4.out, C5.out⟩
            case measure => simp [intOf]; omega
        · obtain rfl : j = ll := by omega
          have EA := itp_all L val S0 k j (by rw [HV.out, HLL.out]; exact Nat.le_refl _)
          rw [EA] at I2 O2
          have I2H := hid_of I2
          have O2H := hid_of O2
          have C2H := hid_of C2
          clear EA I2 O2 C2
          go_wp2_with fail
          go_roundw
          case rel => exact ⟨k + 1, by go_num, fun j hj => HL2.out j (by omega), I2H.out, O2H.out, C2H.out⟩
          case measure => simp [intOf]; omega
    · have hkq : ql ≤ k := by omega
      have hkk : Hid (ql = k) := by
        by_cases e : k = 0
        · subst e; exact Nat.le_zero.1 hkq
        · have h1 := HLT.out (k - 1) (by omega)
          obtain ⟨r, hr⟩ := fold_grow val ((it L val S0 (k - 1)).q.getD (k - 1) 0) (L ((it L val S0 (k - 1)).q.getD (k - 1) 0)) (it L val S0 (k - 1))
          have h2 : (it L val S0 k).q = (it L val S0 (k - 1)).q ++ r := by
            rw [← hr]
            obtain ⟨k', rfl⟩ : ∃ k', k = k' + 1 := ⟨k - 1, by omega⟩
            rfl
          have h3 := HQL.out
          rw [h2, List.length_append] at h3
          show ql = k
          omega
      have IF := hid_of IRH.out
      clear IRH OR CR
      go_wp2_with fail
      go_end0
      exact ⟨rfl, k, HLT.out, HQL.out.trans hkk.out, IF.out, CRH.out⟩
end Go.Proofs.Ytjheiaegpoppaaa

/- comeToFrom: what can be come to and was not come to yet. -/
import Derived.Test.YtpdppjngbbkbbaaDoorVoF
namespace Go.Proofs.YtpdppjngbbkbbaaDoor
open Go.RowKit

/-- Where a node leads, but for what was come to. -/
def Lf (C : Nat → Bool) (L : Nat → List Int) (v : Nat) : List Int := (L v).filter fun t => !C t.toNat
/-- The queue behind k nodes and j neighbours of the next. -/
def inq (C : Nat → Bool) (L : Nat → List Int) (s k j : Nat) : List Nat := (((L ((itq (Lf C L) s k).getD k 0)).take j).filter fun t => !C t.toNat).foldl entq (itq (Lf C L) s k)
theorem inq_zero (C : Nat → Bool) (L : Nat → List Int) (s k : Nat) : inq C L s k 0 = itq (Lf C L) s k := rfl
theorem inq_all (C : Nat → Bool) (L : Nat → List Int) (s k j : Nat) (hj : (L ((itq (Lf C L) s k).getD k 0)).length ≤ j) : inq C L s k j = itq (Lf C L) s (k + 1) := by
  unfold inq
  rw [List.take_of_length_le hj]
  rfl
theorem inq_succ (C : Nat → Bool) (L : Nat → List Int) (s k j : Nat) (hj : j < (L ((itq (Lf C L) s k).getD k 0)).length) : inq C L s k (j + 1) = if C ((L ((itq (Lf C L) s k).getD k 0)).getD j 0).toNat then inq C L s k j else entq (inq C L s k j) ((L ((itq (Lf C L) s k).getD k 0)).getD j 0) := by
  unfold inq
  generalize (itq (Lf C L) s k).getD k 0 = v at hj ⊢
  have e : (L v).getD j 0 = (L v)[j] := by simp [List.getD, hj]
  rw [List.take_succ_eq_append_getElem hj, List.filter_append, List.foldl_append, e]
  cases hc : C (L v)[j].toNat <;> simp [hc]
theorem Lf_rg {C : Nat → Bool} {L : Nat → List Int} {n : Nat} (hL : ∀ v, v < n → ∀ t ∈ L v, 0 ≤ t ∧ t < (n : Int)) : ∀ v, v < n → ∀ t ∈ Lf C L v, 0 ≤ t ∧ t < (n : Int) := fun v hv t ht => hL v hv t (List.mem_filter.1 ht).1
theorem inq_ok {C : Nat → Bool} {L : Nat → List Int} {n : Nat} (hL : ∀ v, v < n → ∀ t ∈ L v, 0 ≤ t ∧ t < (n : Int)) {s : Nat} (hs : s < n) (k j : Nat) (hk : ∀ j, j ≤ k → j < (itq (Lf C L) s j).length) : QQ (Way (fun v => (Lf C L v).map Int.toNat) s) n (inq C L s k j) ∧ (itq (Lf C L) s k).getD k 0 < n := by
  have h := itq_ok (Lf_rg (C := C) hL) hs k (fun j hj => hk j (by omega))
  have hl := hk k (by omega)
  have hm : (itq (Lf C L) s k).getD k 0 ∈ itq (Lf C L) s k := by simp [List.getD, hl]
  refine ⟨h.fold _ (fun t ht => ?_), h.lt _ hm⟩
  have ht1 := List.mem_of_mem_take (List.mem_filter.1 ht).1
  have := hL _ (h.lt _ hm) t ht1
  exact ⟨by omega, (h.way _ hm).step (List.mem_map.2 ⟨t, List.mem_filter.2 ⟨ht1, (List.mem_filter.1 ht).2⟩, rfl⟩)⟩

/-- A list of lists of int to be read; none of them lies in a certain block. -/
structure Besd (w : World) (q cb n : Nat) (L : Nat → List Int) : Prop where
  ne : ¬ q = cb
  rd : ∀ v, v < n → ∃ so sc, w.cell? ⟨q, v, none⟩ = some (.slice so (L v).length sc) ∧ (L v).length ≤ sc ∧ sc ≤ maxLen ∧ (0 < (L v).length → ∃ b off, so = some ⟨b, off, none⟩ ∧ ¬ b = cb ∧ ∀ j, j < (L v).length → w.cell? ⟨b, off + j, none⟩ = some (.int .i64 ((L v).getD j 0)))
theorem Besd.ch {w w' : World} {q cb n : Nat} {L : Nat → List Int} (h : Besd w q cb n L) (C : Ch (fun k => k = cb) w w') : Besd w' q cb n L :=
  ⟨h.ne, fun v hv => by
    obtain ⟨so, sc, h1, h2, h3, h4⟩ := h.rd v hv
    refine ⟨so, sc, C.cell h1 h.ne, h2, h3, fun hp => ?_⟩
    obtain ⟨b, off, e, hb, hc⟩ := h4 hp
    exact ⟨b, off, e, hb, fun j hj => C.cell (hc j hj) hb⟩⟩

set_option maxRecDepth 100000 in
set_option linter.unusedSimpArgs false in
set_option maxHeartbeats 4000000 in
theorem come_calls (n : Nat) (hn : n ≤ 1024) (s : Nat) (hs : s < n) (q cb : Nat) (L : Nat → List Int) (C : Nat → Bool) (w : World) (HB : Besd w q cb n L) (HC : BlsAt w cb n C) (hC : C s = false) (hL0 : ∀ v, v < n → ∀ t ∈ L v, 0 ≤ t ∧ t < (n : Int)) (hLl0 : ∀ v, (L v).length ≤ 8192) :
    Calls Tryd.prog 99 #[.int .i64 (s : Int), .slice (some ⟨q, 0, none⟩) n n, .slice (some ⟨cb, 0, none⟩) n n] w fun r w' => ∃ Q : List Nat, r = .returned (.int .i64 (Q.length : Int)) ∧ Q.Nodup ∧ (∀ u ∈ Q, u < n) ∧ (∀ u, u ∈ Q ↔ Way (fun v => (Lf C L v).map Int.toNat) s u) ∧ BlsAt w' cb n (fun v => C v || decide (v ∈ Q)) ∧ Ch (fun k => k = cb) w w' := by
  obtain ⟨i0, hi, hz0, hz1, hz2⟩ := infoJ
  have hsi : (s : Int) < (n : Int) := by omega
  have f9 := World.rowIs.frozen HC s
  have c9 := HC.cell hs
  have hL := hid_of hL0
  have hLl := hid_of hLl0
  have hqg := HB.ne
  have CW : Ch (fun k => k = cb) w (w.setCell ⟨cb, s, none⟩ (.bool true)) := Ch.setCell (F := fun k => k = cb) (Ch.refl _ w) (p := ⟨cb, s, none⟩) rfl _
  have B1 : BlsAt (w.setCell ⟨cb, s, none⟩ (.bool true)) cb n (fun v => C v || decide (v ∈ itq (Lf C L) s 0)) := (HC.set s true).congr (fun v _ => by
    show Value.bool (if v = s then true else C v) = .bool (C v || decide (v ∈ [s]))
    by_cases e : v = s <;> simp [e])
  have RDW := HB.ch CW
  have hgb : cb < w.heap.size := HC.lt
  clear hL0 hLl0 HB HC
  go_enter Tryd.func99, Tryd.ntmps99
  go_upto_region 2 with fail
  have hgb2 : cb < (w.setCell ⟨cb, s, none⟩ (.bool true)).heap.size := Nat.lt_of_lt_of_le hgb CW.size
  generalize w.setCell ⟨cb, s, none⟩ (.bool true) = Wb at CW B1 RDW hgb2 ⊢
  have RD := hid_of RDW.rd
  have CWH := hid_of CW
  clear c9 f9 RDW CW hgb
  have hgb := hgb2
  have END : Hid (∀ K, (∀ j, j < K → j < (itq (Lf C L) s j).length) → (itq (Lf C L) s K).length = K → ∀ u, u ∈ itq (Lf C L) s K ↔ Way (fun v => (Lf C L v).map Int.toNat) s u) := fun K h1 h2 u => itq_end (Lf_rg (C := C) hL.out) hs h1 h2 u
  have OKQ : Hid (∀ k, (∀ j, j < k → j < (itq (Lf C L) s j).length) → QQ (Way (fun v => (Lf C L v).map Int.toNat) s) n (itq (Lf C L) s k)) := fun k hk => itq_ok (Lf_rg (C := C) hL.out) hs k hk
  have K2 : Kept Wb (Wb.alloc (.cells #[.int .i64 (s : Int)] 3)) := (Kept.refl Wb).alloc _
  have O1 := World.ownsRow_lit (base := Wb.heap.size) (e := 3) (size := 1) Wb #[.int .i64 (s : Int)] 1 (Nat.le_refl _) (by unfold maxLen; omega) rfl
  have I1 := hid_of (B1.kept K2)
  have O1H : Hid ((Wb.alloc (.cells #[.int .i64 (s : Int)] 3)).ownsRow Wb.heap.size 3 1 (.slice (some ⟨Wb.heap.size, 0, none⟩) 1 1) 1 (jvals (qz [s]))) := O1
  have C1 : Hid (Ch (fun k => k = cb) Wb (Wb.alloc (.cells #[.int .i64 (s : Int)] 3))) := Ch.of_kept K2
  clear O1 K2 B1
  go_wp2_with fail
  generalize hW1 : Wb.alloc (.cells #[.int .i64 (s : Int)] 3) = W1 at I1 O1H C1 ⊢
  clear hW1
  go_loopw [7, 8, 10] (fun qv a _ wr => ∃ k : Nat, a = .int .i64 (k : Int) ∧ (∀ j, j < k → j < (itq (Lf C L) s j).length) ∧ BlsAt wr cb n (fun v => C v || decide (v ∈ itq (Lf C L) s k)) ∧ wr.ownsRow Wb.heap.size 3 1 qv (itq (Lf C L) s k).length (jvals (qz (itq (Lf C L) s k))) ∧ Ch (fun k => k = cb) Wb wr) (fun _ a _ _ => n - (intOf a).toNat)
  case atStart => exact ⟨0, rfl, fun j hj => by omega, I1.out, O1H.out, C1.out⟩
  case round =>
    obtain ⟨k, rfl, hlt, IR, OR, CR⟩ := hrel
    clear I1 O1H C1
    have HLT := hid_of hlt
    have IRH := hid_of IR
    have CRH := hid_of CR
    have hql := (OKQ.out k hlt).len
    clear hlt IR
    obtain ⟨ql, hqle⟩ : ∃ ql, (itq (Lf C L) s k).length = ql := ⟨_, rfl⟩
    have HQL := hid_of hqle
    rw [hqle] at OR hql
    obtain ⟨qo, qc, rfl⟩ := owns_slice1j OR
    have hqr := (JRow.of_owns OR).room
    have hqm := (JRow.of_owns OR).most
    unfold maxLen at hqm
    by_cases hgo : (k : Int) < (ql : Int)
    · have HL2 : Hid (∀ j, j ≤ k → j < (itq (Lf C L) s j).length) := fun j hj => by
        by_cases e : j = k
        · subst e; rw [HQL.out]; omega
        · exact HLT.out j (by omega)
      obtain ⟨v, hv⟩ : ∃ v, (itq (Lf C L) s k).getD k 0 = v := ⟨_, rfl⟩
      have hvn : v < n := by rw [← hv]; exact (inq_ok hL.out hs k 0 HL2.out).2
      obtain ⟨b0, off0, e0, hc0⟩ := (JRow.of_owns OR).cell (by omega)
      subst e0
      have c0 := hc0 k (by omega)
      rw [qz_get _ _ (by rw [HQL.out]; omega), hv] at c0
      clear hc0
      obtain ⟨so, sc, rd1, rd2, rd3, rd4⟩ := RD.out v hvn
      unfold maxLen at rd3
      have rd5 := CR.cell rd1 hqg
      have hlen := hLl.out v
      obtain ⟨ll, hll⟩ : ∃ ll, (L v).length = ll := ⟨_, rfl⟩
      have HLL := hid_of hll
      rw [hll] at rd1 rd2 rd4 rd5 hlen
      have RD4 := hid_of rd4
      have ORH := hid_of OR
      have HV := hid_of hv
      have hvi : (v : Int) < (n : Int) := by omega
      clear rd4 rd1 OR CR hv hll hqle
      go_wp2_with fail
      have IS : Hid (∃ j : Nat, j ≤ ll ∧ (0 : Int) = (j : Int) ∧ BlsAt wr cb n (fun v => C v || decide (v ∈ inq C L s k j)) ∧ wr.ownsRow Wb.heap.size 3 1 (.slice (some ⟨b0, off0, none⟩) ql qc) (inq C L s k j).length (jvals (qz (inq C L s k j))) ∧ Ch (fun k => k = cb) Wb wr) :=
        ⟨0, by omega, rfl, by rw [inq_zero]; exact IRH.out, by rw [inq_zero, HQL.out]; exact ORH.out, CRH.out⟩
      clear IRH ORH CRH rd5 c0
      go_loopw [7, 10, 30] (fun qv _ i w2 => ∃ j : Nat, j ≤ ll ∧ i = .int .i64 (j : Int) ∧ BlsAt w2 cb n (fun v => C v || decide (v ∈ inq C L s k j)) ∧ w2.ownsRow Wb.heap.size 3 1 qv (inq C L s k j).length (jvals (qz (inq C L s k j))) ∧ Ch (fun k => k = cb) Wb w2) (fun _ _ i _ => ll - (intOf i).toNat)
      case atStart =>
        obtain ⟨j, h1, h2, h3⟩ := IS.out
        exact ⟨j, h1, by rw [h2], h3⟩
      case round =>
        obtain ⟨j, hj, rfl, I2, O2, C2⟩ := hrel
        clear IS
        by_cases hgo2 : (j : Int) < (ll : Int)
        · obtain ⟨b1, off1, e1, nb1, hc1⟩ := RD4.out (by omega)
          subst e1
          have c1 := C2.cell (hc1 j (by omega)) nb1
          have hmem : (L v).getD j 0 ∈ L v := by
            have : j < (L v).length := by rw [HLL.out]; omega
            simp [List.getD, this]
          have hxr := hL.out v hvn _ hmem
          obtain ⟨x, hx⟩ : ∃ x : Nat, (L v).getD j 0 = (x : Int) := ⟨((L v).getD j 0).toNat, by omega⟩
          have hxn : x < n := by rw [hx] at hxr; omega
          have hxi : (x : Int) < (n : Int) := by omega
          rw [hx] at c1
          have QO := (inq_ok hL.out hs k j HL2.out).1
          have SU := hid_of (inq_succ C L s k j (by rw [HV.out, HLL.out]; omega))
          rw [HV.out, hx, Int.toNat_natCast] at SU
          have hq4 := QO.len
          generalize inq C L s k j = S at I2 O2 SU hq4
          have d1 := I2.cell hxn
          have f1 := World.rowIs.frozen I2 x
          have O2H := hid_of O2
          have C2H := hid_of C2
          have I2H := hid_of I2
          have hnot : ∀ (x : Bool) (w : World), (Op.unary .not (.bool x)).run Tryd.prog w = .ok (.bool (!x)) w := fun _ _ => rfl
          clear hc1 hmem hxr QO O2 I2 C2 hx
          by_cases hin : (C x || decide (x ∈ S)) = true
          · rw [hin] at d1
            have SU2 : Hid (inq C L s k (j + 1) = S) := by
              show inq C L s k (j + 1) = S
              rw [SU.out]
              by_cases hcx : C x = true
              · rw [if_pos hcx]
              · rw [if_neg hcx]
                exact entq_in (by simpa [hcx] using hin)
            have O4 : Hid (wr.ownsRow Wb.heap.size 3 1 u7 (inq C L s k (j + 1)).length (jvals (qz (inq C L s k (j + 1))))) := by rw [SU2.out]; exact O2H.out
            have I4 : Hid (BlsAt wr cb n (fun v => C v || decide (v ∈ inq C L s k (j + 1)))) := by rw [SU2.out]; exact I2H.out
            clear SU hin O2H I2H
            go_wp2_with fail
            go_roundw
            case rel => exact ⟨j + 1, by omega, by go_num, I4.out, O4.out, C2H.out⟩
            case measure => simp [intOf]; omega
          · have hin' : (C x || decide (x ∈ S)) = false := by simpa using hin
            rw [hin'] at d1
            obtain ⟨hcx, hxs⟩ : C x = false ∧ x ∉ S := by simpa using hin'
            have SU2 : Hid (inq C L s k (j + 1) = S ++ [x]) := by
              show inq C L s k (j + 1) = S ++ [x]
              rw [SU.out, if_neg (by simp [hcx])]
              exact entq_out hxs
            have I3H : Hid (BlsAt (wr.setCell ⟨cb, x, none⟩ (.bool true)) cb n (fun v => C v || decide (v ∈ S ++ [x]))) := (I2H.out.set x true).congr (fun v _ => by
              by_cases e : v = x
              · subst e; simp
              · simp [e])
            have C4H : Hid (Ch (fun k => k = cb) Wb (wr.setCell ⟨cb, x, none⟩ (.bool true))) := Ch.setCell (F := fun k => k = cb) C2H.out (p := ⟨cb, x, none⟩) rfl _
            have O3H : Hid ((wr.setCell ⟨cb, x, none⟩ (.bool true)).ownsRow Wb.heap.size 3 1 u7 S.length (jvals (qz S))) := (Ch.setCell (F := fun k => k = cb) (Ch.refl _ wr) (p := ⟨cb, x, none⟩) rfl _).owns O2H.out (fun kk e t => by have := (O2H.out.lt kk e).1; omega)
            have hw3 : Wb.heap.size ≤ (wr.setCell ⟨cb, x, none⟩ (.bool true)).heap.size := C4H.out.size
            clear SU hin hin' hcx hxs O2H I2H C2H
            obtain ⟨ln, hln⟩ : ∃ ln, S.length = ln := ⟨_, rfl⟩
            rw [hln] at O3H hq4
            have HLN2 := hid_of hln
            clear hln
            go_upto_region 11 with fail
            generalize wr.setCell ⟨cb, x, none⟩ (.bool true) = w3 at I3H C4H O3H hw3 ⊢
            have NW := hid_of (cell_newj w3 3 (.int .i64 (x : Int)))
            have HM := hid_of (World.ownsRow.alloc O3H.out (Obj.cells #[.int .i64 (x : Int)] 3))
            clear d1 f1 c1
            go_wp2_with (at_builtin; refine wpList_append_own _ rfl _ _ 25 rfl Wb.heap.size 3 i0 (.int .i64 0) 1 8 Tryd.underlying25 hi hz0 hz1 hz2 rfl (by decide) _ _ _ rfl HM.out ⟨w3.heap.size, 0, none⟩ 1 1 [.int .i64 (x : Int)] rfl rfl NW.out (by intro u hu; simp at hu; subst hu; rfl) (by unfold maxLen; omega) (by omega) (by simp; omega) ?_)
            intro u' w4 hown hgrow _
            have K3 : Kept w3 (w3.alloc (Obj.cells #[.int .i64 (x : Int)] 3)) := (Kept.refl w3).alloc _
            have CG : Ch (fun k => Wb.heap.size ≤ k) w3 w4 := (Ch.of_kept K3).trans (Ch.of_grown hgrow (fun kk e => (O3H.out.lt kk e).1))
            have I4 : Hid (BlsAt w4 cb n (fun v => C v || decide (v ∈ inq C L s k (j + 1)))) := by rw [SU2.out]; exact I3H.out.ch CG (by omega)
            have O4 : Hid (w4.ownsRow Wb.heap.size 3 1 u' (inq C L s k (j + 1)).length (jvals (qz (inq C L s k (j + 1))))) := by
              rw [SU2.out]
              show w4.ownsRow Wb.heap.size 3 1 u' (S ++ [x]).length (jvals (qz (S ++ [x])))
              rw [qz_snoc, ← jvals_snoc, List.length_append, HLN2.out]
              exact hown
            have C5 : Hid (Ch (fun k => k = cb) Wb w4) := C4H.out.trans' CG (fun i hi => .inr hi)
            clear hown hgrow CG K3 HM NW O3H I3H C4H
            go_wp2_with fail
            go_roundw
            case rel => exact ⟨j + 1, by omega, by go_num, I4.out, O4.out, C5.out⟩
            case measure => simp [intOf]; omega
        · obtain rfl : j = ll := by omega
          have EA := inq_all C L s k j (by rw [HV.out, HLL.out]; exact Nat.le_refl _)
          rw [EA] at I2 O2
          have I2H := hid_of I2
          have O2H := hid_of O2
          have C2H := hid_of C2
          clear EA I2 O2 C2
          go_wp2_with fail
          go_roundw
          case rel => exact ⟨k + 1, by go_num, fun j hj => HL2.out j (by omega), I2H.out, O2H.out, C2H.out⟩
          case measure => simp [intOf]; omega
    · have hkq : ql ≤ k := by omega
      have hkk : Hid (ql = k) := by
        by_cases e : k = 0
        · subst e; exact Nat.le_zero.1 hkq
        · have h1 := HLT.out (k - 1) (by omega)
          obtain ⟨r, hr⟩ := itq_grow (Lf C L) s (k - 1)
          rw [show k - 1 + 1 = k by omega] at hr
          have h3 := HQL.out
          rw [hr, List.length_append] at h3
          show ql = k
          omega
      have IF := hid_of IRH.out
      clear IRH OR CR
      go_wp2_with fail
      go_ret
      have QF := OKQ.out k HLT.out
      exact ⟨itq (Lf C L) s k, by rw [HQL.out]; rfl, QF.nodup, QF.lt, END.out k HLT.out (HQL.out.trans hkk.out), IF.out, CWH.out.trans CRH.out⟩
end Go.Proofs.YtpdppjngbbkbbaaDoor

/- The document's Order. -/
import Derived.Test.YtjheiaegpoppaaaWkM
namespace Go.Proofs.Ytjheiaegpoppaaa
open Go.RowKit

/-- The least of the nodes from p on that may come next, or -1. -/
def nxtZ (es : List Ed) (n : Nat) (O : List Nat) (p : Nat) (z : Int) : Prop :=
  (z = -1 ∧ ∀ u, p ≤ u → u < n → mayV es O u = false) ∨ ∃ u : Nat, z = (u : Int) ∧ p ≤ u ∧ u < n ∧ mayV es O u = true ∧ ∀ x, p ≤ x → x < u → mayV es O x = false

theorem nxtZ.none {es : List Ed} {n : Nat} {O : List Nat} {z : Int} (h : nxtZ es n O 0 z) (hz : nextV es n O = Option.none) : z = -1 := by
  rcases h with h | ⟨u, rfl, -, h2, h3, -⟩
  · exact h.1
  · unfold nextV at hz
    rw [List.find?_eq_none] at hz
    exact absurd h3 (hz u (by simpa using h2))

theorem nxtZ.some {es : List Ed} {n : Nat} {O : List Nat} {z : Int} (h : nxtZ es n O 0 z) {v : Nat} (hz : nextV es n O = Option.some v) : z = (v : Int) := by
  obtain ⟨h1, h2, h3⟩ := nextV_spec hz
  rcases h with h | ⟨u, rfl, -, h5, h6, h7⟩
  · have := h.2 v (by omega) h1
    rw [h2] at this
    cases this
  · by_cases e : u = v
    · rw [e]
    · by_cases l : u < v
      · have := h3 u l; rw [h6] at this; cases this
      · have := h7 v (by omega) (by omega); rw [h2] at this; cases this

theorem nxtZ.keep {es : List Ed} {n : Nat} {O : List Nat} {p : Nat} {z : Int} (h : nxtZ es n O (p + 1) z) (hp : mayV es O p = false) : nxtZ es n O p z := by
  rcases h with h | ⟨u, rfl, h4, h5, h6, h7⟩
  · exact .inl ⟨h.1, fun u a b => by
      by_cases e : u = p
      · rw [e]; exact hp
      · exact h.2 u (by omega) b⟩
  · exact .inr ⟨u, rfl, by omega, h5, h6, fun x a b => by
      by_cases e : x = p
      · rw [e]; exact hp
      · exact h7 x (by omega) b⟩

theorem nxtZ.set {es : List Ed} {n : Nat} {O : List Nat} {p : Nat} (hpn : p < n) (hp : mayV es O p = true) : nxtZ es n O p (p : Int) :=
  .inr ⟨p, rfl, Nat.le_refl _, hpn, hp, fun x a b => by omega⟩

theorem ordl_succ {es : List Ed} {n k v : Nat} (h : nextV es n (ordl es n k) = some v) : ordl es n (k + 1) = ordl es n k ++ [v] := by
  show (match nextV es n (ordl es n k) with | some v => ordl es n k ++ [v] | none => ordl es n k) = _
  rw [h]

set_option maxRecDepth 100000 in
set_option maxHeartbeats 4000000 in
theorem orderRBad_calls (nodes : Int) (ao : Option Addr) (m cap : Nat) (es : List Ed) (w : World) (h : ERow w ao m cap es) (c a : Int) (hf : Hid (faultOf nodes es = (c, a))) (hb : c ≠ 0) :
    Calls Try.prog 15 #[.agg #[.int .i64 nodes, .slice ao m cap]] w fun r w' => r = .returned (.tuple #[.slice none 0 0, .int .i64 c]) ∧ Kept w w' := by
  have KG : Kept w (w.alloc (Obj.cells #[.int .i64 nodes, .slice ao m cap] 24)) := (Kept.refl w).alloc _
  have g0 : (w.alloc (Obj.cells #[.int .i64 nodes, .slice ao m cap] 24)).cell? ⟨w.heap.size, 0, none⟩ = some (.int .i64 nodes) := by simp [go_sem]
  have g1 : (w.alloc (Obj.cells #[.int .i64 nodes, .slice ao m cap] 24)).cell? ⟨w.heap.size, 1, none⟩ = some (.slice ao m cap) := by simp [go_sem]
  have HE := hid_of (h.kept KG)
  have hq : (c != 0) = true := by simpa using hb
  clear h hb
  go_enter Try.func15, Try.ntmps15
  go_wp2_with fail
  generalize hW0 : w.alloc (Obj.cells #[.int .i64 nodes, .slice ao m cap] 24) = W0 at KG g0 g1 HE ⊢
  clear hW0
  refine (checkR_calls nodes ao m cap es W0 HE.out c a hf).mono ?_
  rintro v wa ⟨rfl, K1⟩
  have KA := hid_of (KG.trans K1)
  clear K1 KG HE g1 g0
  go_wp2_with fail
  go_ret2
  exact ⟨rfl, KA.out⟩

/-- What Order answers. -/
def OrdPost (es : List Ed) (n N : Nat) (w : World) (r : Ending) (w' : World) : Prop := ((N = n ∧ ∃ so sc, r = .returned (.tuple #[.slice so n sc, .int .i64 0]) ∧ w'.ownsRow w.heap.size 3 1 (.slice so n sc) n (jvals (qz (ordl es n n)))) ∨ (N < n ∧ r = .returned (.tuple #[.slice none 0 0, .int .i64 71]))) ∧ Kept w w'

set_option maxRecDepth 100000 in
set_option maxHeartbeats 4000000 in
theorem orderR_calls (n : Nat) (hn : n ≤ 1024) (ao : Option Addr) (m cap : Nat) (es : List Ed) (w : World) (h : ERow w ao m cap es) (hf : Hid (faultOf (n : Int) es = (0, 0))) (hrg : Hid (∀ e ∈ es, 0 ≤ e.f ∧ e.f < (n : Int) ∧ 0 ≤ e.t ∧ e.t < (n : Int))) (N : Nat) (hN : N ≤ n) (hsucc : Hid (∀ k, k < N → ∃ v, nextV es n (ordl es n k) = some v)) (hlen : Hid (∀ k, k ≤ N → (ordl es n k).length = k)) (hend : N < n → nextV es n (ordl es n N) = none) :
    Calls Try.prog 15 #[.agg #[.int .i64 (n : Int), .slice ao m cap]] w (OrdPost es n N w) := by
  have hnot : ∀ (x : Bool) (w : World), (Op.unary .not (.bool x)).run Try.prog w = .ok (.bool (!x)) w := fun _ _ => rfl
  obtain ⟨i0, hi, hz0, hz1, hz2⟩ := infoJ
  have hmkB : ∀ w : World, (Instr.makeSlice 40 (.int .i64 (n : Int)) (.int .i64 (n : Int))).run Try.prog w = .ok (.slice (some ⟨w.heap.size, 0, none⟩) n n) (w.alloc (.cells (madeCells #[.bool false] n) 4)) :=
    fun w => run_make_row' 40 4 (.bool false) 1 Try.underlying40 infoB0 rfl .i64 .i64 n (by omega) (by omega) w
  have KG : Kept w (w.alloc (Obj.cells #[.int .i64 (n : Int), .slice ao m cap] 24)) := (Kept.refl w).alloc _
  have g0 : (w.alloc (Obj.cells #[.int .i64 (n : Int), .slice ao m cap] 24)).cell? ⟨w.heap.size, 0, none⟩ = some (.int .i64 (n : Int)) := by simp [go_sem]
  have g1 : (w.alloc (Obj.cells #[.int .i64 (n : Int), .slice ao m cap] 24)).cell? ⟨w.heap.size, 1, none⟩ = some (.slice ao m cap) := by simp [go_sem]
  have HE := hid_of (h.kept KG)
  have HEND := hid_of hend
  clear h hend
  go_enter Try.func15, Try.ntmps15
  go_wp2_with fail
  generalize hW0 : w.alloc (Obj.cells #[.int .i64 (n : Int), .slice ao m cap] 24) = W0 at KG g0 g1 HE ⊢
  clear hW0
  refine (checkR_calls (n : Int) ao m cap es W0 HE.out 0 0 hf).mono ?_
  rintro v wb ⟨rfl, K1⟩
  replace g0 := K1.cell g0
  replace g1 := K1.cell g1
  have HE2 := hid_of (HE.out.kept K1)
  have KB := hid_of (KG.trans K1)
  have hwb : Hid (w.heap.size ≤ wb.heap.size) := (KG.trans K1).size
  clear K1 KG HE
  have B3 := World.rowIs_made wb (.bool false) n 4
  have K3 : Kept wb (wb.alloc (.cells (madeCells #[.bool false] n) 4)) := (Kept.refl wb).alloc _
  have z3 : Hid ((wb.alloc (.cells (madeCells #[.bool false] n) 4)).heap.size = wb.heap.size + 1) := by show _ = _; simp
  have B3H : Hid (BoolsAt (wb.alloc (.cells (madeCells #[.bool false] n) 4)) wb.heap.size n (fun v => (ordl es n 0).contains v)) := World.rowIs.congr B3 (fun i _ => by simp [ordl])
  have K3H := hid_of K3
  clear B3
  go_upto_region 5 with fail
  generalize hW3 : wb.alloc (.cells (madeCells #[.bool false] n) 4) = W3 at K3 z3 B3H K3H ⊢
  clear hW3 hmkB K3
  obtain ⟨q, hq⟩ : ∃ q, wb.heap.size = q := ⟨_, rfl⟩
  rw [hq] at B3H z3 ⊢
  have HQ := hid_of hq
  clear hq
  go_wp2_with fail
  go_loopg [7] N (fun gk sv wr => ∃ j : Nat, j + gk = N ∧ wr.ownsRow (q + 1) 3 1 sv j (jvals (qz (ordl es n j))) ∧ BoolsAt wr q n (fun v => (ordl es n j).contains v) ∧ Kept wb wr)
  case atStart => exact ⟨0, by omega, World.ownsRow_nil _ _ _ _, B3H.out, K3H.out⟩
  case round =>
    obtain ⟨j, hjg, OR, BR, K⟩ := hrel
    clear B3H K3H z3
    obtain ⟨so, sc, rfl⟩ := owns_slice1j OR
    have x0 := K.cell g0
    have x1 := K.cell g1
    have hsz := BR.lt
    have HL := hlen.out j (by omega)
    have JR := JRow.of_owns OR
    have hrm := JR.room
    have hmx := JR.most
    unfold maxLen at hmx
    have ORH := hid_of OR
    have BRH := hid_of BR
    have KH := hid_of K
    have HE3 := hid_of (HE2.out.kept K)
    clear OR BR K JR
    by_cases hgo : (j : Int) < (n : Int)
    · generalize hWR : wr = WR at *
      generalize hGK : gk = GK at *
      clear hWR hGK
      go_wp2_with fail
      go_loopw [8, 9] (fun z i wr => ∃ p : Nat, p ≤ n ∧ i = .int .i64 ((p : Int) - 1) ∧ (∃ zz, z = .int .i64 zz ∧ nxtZ es n (ordl es n j) p zz) ∧ Kept WR wr) (fun _ i _ => (intOf i + 1).toNat)
      case atStart => exact ⟨n, Nat.le_refl _, by go_num, ⟨-1, rfl, .inl ⟨rfl, fun u a b => by omega⟩⟩, Kept.refl _⟩
      case round =>
        obtain ⟨p, hp, rfl, ⟨zz, rfl, NZ⟩, K2⟩ := hrel
        cases p with
        | zero =>
          have K2H := hid_of K2
          have y0 := K2.cell x0
          clear K2
          by_cases hjN : j < N
          · obtain ⟨v, hv⟩ := hsucc.out j hjN
            have ez := NZ.some hv
            subst ez
            have hvn := (nextV_spec hv).1
            have hvi : (v : Int) < (n : Int) := by omega
            have SU := hid_of (ordl_succ hv)
            have B2 := BRH.out.kept K2H.out
            have O2 := ownsK ORH.out K2H.out
            have cv := B2.cell hvn
            have fv := World.rowIs.frozen B2 v
            have hsz2 := B2.lt
            have BN : Hid (BoolsAt (wr.setCell ⟨q, v, none⟩ (.bool true)) q n (fun u => (ordl es n (j + 1)).contains u)) := (BoolsAt.set B2 v true).congr (fun u _ => by
              rw [SU.out]
              by_cases hu : u = v
              · simp [hu]
              · simp [hu])
            have ON : Hid ((wr.setCell ⟨q, v, none⟩ (.bool true)).ownsRow (q + 1) 3 1 (.slice so j sc) j (jvals (qz (ordl es n j)))) :=
              ownsRow_setCell_other O2 (fun e => by have := (O2.lt _ e).1; simp only at this; omega) _
            have KN : Hid (Kept wb (wr.setCell ⟨q, v, none⟩ (.bool true))) := (KH.out.trans K2H.out).setCell (p := ⟨q, v, none⟩) (by rw [HQ.out]; exact Nat.le_refl _) _
            have hs5 : q + 1 ≤ (wr.setCell ⟨q, v, none⟩ (.bool true)).heap.size := by simp; omega
            clear NZ hv B2 O2 K2H KH ORH BRH HE3
            go_upto_region 16 with fail
            generalize hW5 : wr.setCell ⟨q, v, none⟩ (.bool true) = W5 at BN ON KN hs5 ⊢
            clear hW5 cv fv y0
            have NW := hid_of (cell_newj W5 3 (.int .i64 (v : Int)))
            have HM := hid_of (World.ownsRow.alloc ON.out (Obj.cells #[.int .i64 (v : Int)] 3))
            go_wp2_with (at_builtin; refine wpList_append_own _ rfl _ _ 26 rfl (q + 1) 3 i0 (.int .i64 0) 1 8 Try.underlying26 hi hz0 hz1 hz2 rfl (by decide) _ _ _ rfl HM.out ⟨W5.heap.size, 0, none⟩ 1 1 [.int .i64 (v : Int)] rfl rfl NW.out (by intro u hu; simp at hu; subst hu; rfl) (by unfold maxLen; omega) (by omega) (by simp; omega) ?_)
            intro u' w4 hown hgrow _
            have K5 : Kept W5 (W5.alloc (Obj.cells #[.int .i64 (v : Int)] 3)) := (Kept.refl W5).alloc _
            have CG : Ch (fun k => q + 1 ≤ k) W5 w4 := (Ch.of_kept K5).trans (Ch.of_grown hgrow (fun kk e => (ON.out.lt kk e).1))
            have B4 : Hid (BoolsAt w4 q n (fun u => (ordl es n (j + 1)).contains u)) := BN.out.ch CG (by omega)
            have O4 : Hid (w4.ownsRow (q + 1) 3 1 u' (j + 1) (jvals (qz (ordl es n (j + 1))))) := by
              rw [SU.out, qz_snoc, ← jvals_snoc]; exact hown
            have K4 : Hid (Kept wb w4) := KN.out.ch CG (fun k t => by rw [HQ.out]; omega)
            clear hown hgrow CG K5 HM NW BN ON KN
            go_wp2_with fail
            go_roundg (GK - 1)
            case measure => omega
            case rel => exact ⟨j + 1, by omega, O4.out, B4.out, K4.out⟩
          · obtain rfl : j = N := by omega
            have hv := HEND.out (by omega)
            have ez := NZ.none hv
            subst ez
            have hlt : j < n := by omega
            clear NZ hv ORH BRH HE3
            go_wp2_with fail
            go_ret2
            exact ⟨.inr ⟨hlt, rfl⟩, KB.out.trans (KH.out.trans K2H.out)⟩
        | succ p =>
          have hpn : p < n := by omega
          have hpi : (p : Int) < (n : Int) := by omega
          have y0 := K2.cell x0
          have y1 := K2.cell x1
          have cp := (BRH.out.kept K2).cell hpn
          have E1 : ((p + 1 : Nat) : Int) - 1 = (p : Int) := by omega
          rw [E1]
          have NZH := hid_of NZ
          have K2H := hid_of K2
          clear NZ
          cases hcp : (ordl es n j).contains p with
          | true =>
            rw [hcp] at cp
            have NN := hid_of (NZH.out.keep (by unfold mayV; rw [hcp]; rfl))
            clear NZH K2
            go_wp2_with fail
            go_roundw
            case rel => exact ⟨p, by omega, by go_num, ⟨_, rfl, NN.out⟩, K2H.out⟩
            case measure => simp [intOf]
          | false =>
            rw [hcp] at cp
            obtain ⟨bb, hbb⟩ : ∃ bb, Hid (bb = decide (cntIn es (ordl es n j) p = 0)) := ⟨_, hid_of rfl⟩
            have HM := hid_of (show mayV es (ordl es n j) p = bb by unfold mayV; rw [hcp, hbb.out]; rfl)
            have MC := hid_of (may_calls n ao m cap es wr (HE3.out.kept K2) hrg q (ordl es n j) (hid_of (BRH.out.kept K2)) p bb hbb)
            clear K2 hcp
            go_wp2_with fail
            refine MC.out.mono ?_
            rintro r w7 ⟨rfl, K7⟩
            have K7H := hid_of (K2H.out.trans K7)
            clear K7 MC K2H y0 y1 cp
            cases bb with
            | true =>
              have NN := hid_of (nxtZ.set hpn HM.out)
              clear NZH HM
              go_wp2_with fail
              go_roundw
              case rel => exact ⟨p, by omega, by go_num, ⟨_, rfl, NN.out⟩, K7H.out⟩
              case measure => simp [intOf]
            | false =>
              have NN := hid_of (NZH.out.keep HM.out)
              clear NZH HM
              go_wp2_with fail
              go_roundw
              case rel => exact ⟨p, by omega, by go_num, ⟨_, rfl, NN.out⟩, K7H.out⟩
              case measure => simp [intOf]
    · obtain rfl : j = n := by omega
      have eN : N = j := by omega
      have FO : Hid (wr.ownsRow w.heap.size 3 1 (.slice so j sc) j (jvals (qz (ordl es j j)))) := World.ownsRow.mono ORH.out (by have := hwb.out; have := HQ.out; omega)
      clear ORH BRH HE3
      go_wp2_with fail
      go_ret2
      exact ⟨.inl ⟨rfl, so, sc, rfl, FO.out⟩, KB.out.trans KH.out⟩
end Go.Proofs.Ytjheiaegpoppaaa

/- Matchings: mustMatch. -/
import Derived.Test.YtpdppjngbbkbbaaDoorVoC
namespace Go.Proofs.YtpdppjngbbkbbaaDoor
open Go.RowKit

theorem cell_put {w : World} {a o q i : Nat} {x u : Value} (h : w.cell? ⟨a, o, none⟩ = some x) (hq : ¬ a = q) : (w.setCell ⟨q, i, none⟩ u).cell? ⟨a, o, none⟩ = some x := by
  rw [World.cell?_setCell_other _ _ _ _ (fun e => hq (by injection e with e1 _ _; exact e1.symm))]
  exact h
theorem cell_put2 {w : World} {a o q i j : Nat} {x u v : Value} (h : w.cell? ⟨a, o, none⟩ = some x) (hq : ¬ a = q) : ((w.setCell ⟨q, i, none⟩ u).setCell ⟨q, j, none⟩ v).cell? ⟨a, o, none⟩ = some x := cell_put (cell_put h hq) hq
theorem Box2.put {w : World} {fb q i : Nat} {a b u : Value} (h : Box2 w fb a b) (hq : ¬ fb = q) : Box2 (w.setCell ⟨q, i, none⟩ u) fb a b := ⟨cell_put h.f0 hq, cell_put h.f1 hq⟩

/-- Does one of the first k of some edges end at a node? -/
def usedTo (es : List Ed) (m : List Int) (k v : Nat) : Bool := (List.range k).any fun j => frm es m j == (v : Int) || tto es m j == (v : Int)
theorem usedTo_iff {es : List Ed} {m : List Int} {k v : Nat} : usedTo es m k v = true ↔ ∃ j, j < k ∧ (frm es m j = (v : Int) ∨ tto es m j = (v : Int)) := by
  simp [usedTo, List.any_eq_true]
theorem usedTo_succ (es : List Ed) (m : List Int) (k v : Nat) : usedTo es m (k + 1) v = if (v : Int) = tto es m k then true else if (v : Int) = frm es m k then true else usedTo es m k v := by
  unfold usedTo
  rw [List.range_succ, List.any_append]
  simp only [List.any_cons, List.any_nil, Bool.or_false]
  by_cases e : (v : Int) = tto es m k
  · rw [if_pos e, e]; simp
  · rw [if_neg e]
    have : (tto es m k == (v : Int)) = false := by simpa using fun t => e t.symm
    rw [this, Bool.or_false]
    by_cases e : (v : Int) = frm es m k
    · rw [if_pos e, e]; simp
    · rw [if_neg e]
      have : (frm es m k == (v : Int)) = false := by simpa using fun t => e t.symm
      rw [this, Bool.or_false]

/-- No loop, no two at a node: the first k. -/
def ApartTo (es : List Ed) (m : List Int) (k : Nat) : Prop := ∀ j, j < k → frm es m j ≠ tto es m j ∧ usedTo es m j (frm es m j).toNat = false ∧ usedTo es m j (tto es m j).toNat = false
/-- A matching. -/
def MatchOk (es : List Ed) (n : Nat) (m : List Int) (lm : Nat) : Prop := RiseTo m (n : Int) lm ∧ ApartTo es m lm

set_option maxRecDepth 100000 in
set_option linter.unusedSimpArgs false in
set_option maxHeartbeats 4000000 in
theorem mustMatch_calls (mo : Option Addr) (lm mc : Nat) (m : List Int) (N : Nat) (ao : Option Addr) (n cap : Nat) (es : List Ed) (w : World) (hJ : JRow w mo lm mc m) (h : ERow w ao n cap es) (RG : Right N n es) :
    Calls Tryd.prog 49 #[.slice mo lm mc, .agg #[.int .i64 (N : Int), .slice ao n cap]] w fun r w' => Kept w w' ∧ ((MatchOk es n m lm ∧ r = .returned (.tuple #[])) ∨ (¬ MatchOk es n m lm ∧ r = .panicked [{ v := .iface 140 (.agg #[.int .i64 221]), recovered := false }])) := by
  have hr1 := h.room
  have hm1 := h.most
  have hr2 := hJ.room
  have hm2 := hJ.most
  unfold maxLen at hm1 hm2
  have hn := RG.edges
  have hN := RG.nodes
  have hmk : ∀ w : World, (Instr.makeSlice 94 (.int .i64 (N : Int)) (.int .i64 (N : Int))).run Tryd.prog w = .ok (.slice (some ⟨w.heap.size, 0, none⟩) N N) (w.alloc (.cells (madeCells #[.bool false] N) 4)) :=
    fun w => run_make_row' 94 4 (.bool false) 1 Tryd.underlying94 infoBl0 rfl .i64 .i64 N (by omega) (by omega) w
  have KW : Kept w (w.alloc (Obj.cells #[.int .i64 (N : Int), .slice ao n cap] 24)) := (Kept.refl w).alloc _
  have w0 : (w.alloc (Obj.cells #[.int .i64 (N : Int), .slice ao n cap] 24)).cell? ⟨w.heap.size, 0, none⟩ = some (.int .i64 (N : Int)) := by simp [go_sem]
  have w1 : (w.alloc (Obj.cells #[.int .i64 (N : Int), .slice ao n cap] 24)).cell? ⟨w.heap.size, 1, none⟩ = some (.slice ao n cap) := by simp [go_sem]
  have HE := hid_of h
  have HJ := hid_of hJ
  have RGH := hid_of RG
  have C0 := hid_of (mustRise_calls mo lm mc m (n : Int) _ (hJ.kept KW))
  clear h hJ RG
  go_enter Tryd.func49, Tryd.ntmps49
  go_wp2_with fail
  generalize w.alloc (Obj.cells #[.int .i64 (N : Int), .slice ao n cap] 24) = W1 at KW w0 w1 C0 ⊢
  refine C0.out.mono ?_
  rintro e wa ⟨K1, ⟨ris, rfl⟩ | ⟨ris, rfl⟩⟩
  rotate_left
  · have HK := hid_of (KW.trans K1)
    clear w0 w1 K1 C0 KW
    go_wp2
    exact ⟨rfl, HK.out, .inr ⟨fun t => ris t.1, rfl⟩⟩
  replace w0 := K1.cell w0
  replace w1 := K1.cell w1
  have HK := hid_of (KW.trans K1)
  have RIS := hid_of ris
  clear K1 C0 KW ris
  go_upto_region 3 with fail
  have KM : Kept wa (wa.alloc (.cells (madeCells #[.bool false] N) 4)) := (Kept.refl wa).alloc _
  have B0 : BlsAt (wa.alloc (.cells (madeCells #[.bool false] N) 4)) wa.heap.size N (usedTo es m 0) := World.rowIs.congr (World.rowIs_made wa (.bool false) N 4) (fun i _ => by simp [usedTo])
  obtain ⟨q, hq⟩ : ∃ q, wa.heap.size = q := ⟨_, rfl⟩
  have hqw : w.heap.size ≤ q := by rw [← hq]; exact HK.out.size
  have WLT : Hid (w.heap.size < q) := by rw [← hq]; exact lt_cell w1
  rw [hq] at B0
  replace w1 := KM.cell w1
  have HK2 := hid_of (HK.out.trans KM)
  have BH := hid_of B0
  simp only [hq] at *
  generalize wa.alloc (.cells (madeCells #[.bool false] N) 4) = W2 at w1 HK2 BH ⊢
  clear hmk KM B0 HK w0 hq
  go_wp2_with fail
  go_loopw [6, 7, 18] (fun _ _ i wr => ∃ (k : Nat), k ≤ lm ∧ i = .int .i64 k ∧ Kept w wr ∧ BlsAt wr q N (usedTo es m k) ∧ wr.cell? ⟨w.heap.size, 1, none⟩ = some (.slice ao n cap) ∧ ApartTo es m k) (fun _ _ i _ => lm - (intOf i).toNat)
  case atStart => exact ⟨0, by omega, rfl, HK2.out, BH.out, w1, fun i hi => by omega⟩
  case round =>
    obtain ⟨k, hk, rfl, K, BR, w1, hno⟩ := hrel
    have BRH := hid_of BR
    have HNO := hid_of hno
    clear BR BH hno HK2
    by_cases hgo : (k : Int) < (lm : Int)
    · obtain ⟨b2, off2, rfl, hc2⟩ := (HJ.out.kept K).at (by omega)
      have d5 := hc2 k (by omega)
      obtain ⟨x1, x2⟩ := RIS.out.rng (j := k) (by omega)
      obtain ⟨x, hx⟩ : ∃ x : Nat, zAt m k = (x : Int) := ⟨(zAt m k).toNat, by omega⟩
      have hxn : x < n := by omega
      obtain ⟨b, off, rfl, hc⟩ := (HE.out.kept K).cell (by omega)
      obtain ⟨d1, d2, d3, d4⟩ := hc x hxn
      obtain ⟨e1, e2, e3, e4⟩ := RGH.out.ends x hxn
      have FF : Hid (frm es m k = (edAt es x).f) := by
        show frm es m k = _
        unfold frm
        rw [hx, Int.toNat_natCast]
      have TT : Hid (tto es m k = (edAt es x).t) := by
        show tto es m k = _
        unfold tto
        rw [hx, Int.toNat_natCast]
      rw [hx] at d5 x2
      have HIT : Hid (frm es m k ≠ tto es m k ∧ usedTo es m k (frm es m k).toNat = false ∧ usedTo es m k (tto es m k).toNat = false → ApartTo es m (k + 1)) := fun hb i hi => by
        by_cases e : i = k
        · subst e; exact hb
        · exact HNO.out i (by omega)
      have MISS : Hid (¬ (frm es m k ≠ tto es m k ∧ usedTo es m k (frm es m k).toNat = false ∧ usedTo es m k (tto es m k).toNat = false) → ¬ MatchOk es n m lm) := fun hb t => hb (t.2 k (by omega))
      have SU : Hid (∀ v : Nat, usedTo es m (k + 1) v = if (v : Int) = tto es m k then true else if (v : Int) = frm es m k then true else usedTo es m k v) := fun v => usedTo_succ es m k v
      rw [FF.out, TT.out] at HIT MISS SU
      generalize edAt es x = e at d1 d2 d3 d4 e1 e2 e3 e4 HIT MISS SU
      obtain ⟨ef, et, ec, ek⟩ := e
      simp only at d1 d2 d3 d4 e1 e2 e3 e4 HIT MISS SU
      obtain ⟨f, rfl⟩ : ∃ f : Nat, ef = (f : Int) := ⟨ef.toNat, by omega⟩
      obtain ⟨t, rfl⟩ : ∃ t : Nat, et = (t : Int) := ⟨et.toNat, by omega⟩
      simp only [Int.toNat_natCast] at HIT MISS
      have hfN : f < N := by omega
      have htN : t < N := by omega
      have KE : Kept wr (wr.alloc (Obj.cells #[.int .i64 (f : Int), .int .i64 (t : Int), .int .i64 ec, .int .i64 ek] 86)) := (Kept.refl wr).alloc _
      obtain ⟨eb, heb⟩ : ∃ eb, wr.heap.size = eb := ⟨_, rfl⟩
      have a0 : (wr.alloc (Obj.cells #[.int .i64 (f : Int), .int .i64 (t : Int), .int .i64 ec, .int .i64 ek] 86)).cell? ⟨eb, 0, none⟩ = some (.int .i64 (f : Int)) := by simp [go_sem, ← heb]
      have a1 : (wr.alloc (Obj.cells #[.int .i64 (f : Int), .int .i64 (t : Int), .int .i64 ec, .int .i64 ek] 86)).cell? ⟨eb, 1, none⟩ = some (.int .i64 (t : Int)) := by simp [go_sem, ← heb]
      have a2 : (wr.alloc (Obj.cells #[.int .i64 (f : Int), .int .i64 (t : Int), .int .i64 ec, .int .i64 ek] 86)).cell? ⟨eb, 2, none⟩ = some (.int .i64 ec) := by simp [go_sem, ← heb]
      have a3 : (wr.alloc (Obj.cells #[.int .i64 (f : Int), .int .i64 (t : Int), .int .i64 ec, .int .i64 ek] 86)).cell? ⟨eb, 3, none⟩ = some (.int .i64 ek) := by simp [go_sem, ← heb]
      have hqe : q < eb := by rw [← heb]; exact BRH.out.lt
      have BE := hid_of (BRH.out.kept KE)
      have HKE := hid_of (K.trans KE)
      have w1e := KE.cell w1
      clear hc hc2 hx x1 FF TT HNO e1 e2 e3 e4
      go_upto_region 7 with fail
      generalize wr.alloc (Obj.cells #[.int .i64 (f : Int), .int .i64 (t : Int), .int .i64 ec, .int .i64 ek] 86) = W3 at a0 a1 a2 a3 BE HKE w1e ⊢
      clear d1 d2 d3 d4 KE K BRH w1 heb
      have CL := hid_of (isLoop_calls ⟨(f : Int), (t : Int), ec, ek⟩ W3)
      by_cases hft : f = t
      · subst hft
        have P := hid_of (MISS.out (fun s => s.1 rfl))
        have q1 : ((f : Int) == (f : Int)) = true := by simp
        clear HIT MISS SU
        go_wp2_with fail
        refine CL.out.mono ?_
        rintro e w4 ⟨rfl, K4⟩
        have HK4 := hid_of (HKE.out.trans K4)
        clear K4 CL a0 a1 a2 a3 w1e
        go_wp2_with (go_at_call 51; refine (must_no _).mono ?_; rintro e w' ⟨rfl, rfl⟩)
        exact ⟨rfl, HK4.out, .inr ⟨P.out, rfl⟩⟩
      · have hfi : ¬ (f : Int) = (t : Int) := by omega
        have q1 : ((f : Int) == (t : Int)) = false := by rw [beq_eq_false_iff_ne]; exact hfi
        go_wp2_with fail
        refine CL.out.mono ?_
        rintro e w4 ⟨rfl, K4⟩
        replace a0 := K4.cell a0
        replace a1 := K4.cell a1
        replace w1e := K4.cell w1e
        have B4 := hid_of (BE.out.kept K4)
        have HK4 := hid_of (HKE.out.trans K4)
        have cf := B4.out.cell hfN
        have ct := B4.out.cell htN
        clear K4 CL a2 a3 BE HKE
        by_cases hf : usedTo es m k f = true
        · rw [hf] at cf
          have P := hid_of (MISS.out (fun s => by rw [hf] at s; exact absurd s.2.1 (by decide)))
          clear HIT MISS SU
          go_wp2_with (go_at_call 51; refine (must_no _).mono ?_; rintro e w' ⟨rfl, rfl⟩)
          exact ⟨rfl, HK4.out, .inr ⟨P.out, rfl⟩⟩
        have hf' : usedTo es m k f = false := by simpa using hf
        by_cases ht : usedTo es m k t = true
        · rw [hf'] at cf
          rw [ht] at ct
          have P := hid_of (MISS.out (fun s => by rw [ht] at s; exact absurd s.2.2 (by decide)))
          clear HIT MISS SU
          go_wp2_with (go_at_call 51; refine (must_no _).mono ?_; rintro e w' ⟨rfl, rfl⟩)
          exact ⟨rfl, HK4.out, .inr ⟨P.out, rfl⟩⟩
        have ht' : usedTo es m k t = false := by simpa using ht
        rw [hf'] at cf
        rw [ht'] at ct
        have P := hid_of (HIT.out ⟨hfi, hf', ht'⟩)
        clear HIT MISS hf hf' ht ht'
        have ff := World.rowIs.frozen B4.out f
        have ft := World.rowIs.frozen B4.out t
        go_wp2_with (go_at_call 51; refine (must_ok _).mono ?_; rintro e w' ⟨rfl, rfl⟩)
        have hBX : Box2 w4 eb (.int .i64 (f : Int)) (.int .i64 (t : Int)) := ⟨a0, a1⟩
        refine Ord.region [(0, 0), (1, 0), (2, 1), (3, 0), (4, 0), (5, 1), (6, 0), (7, 2), (8, 0), (9, 2)] (fun w' => Box2 w' eb (.int .i64 (f : Int)) (.int .i64 (t : Int))) (by kernel_rfl) (by kernel_rfl) (by kernel_rfl) (by kernel_rfl) (fun _ _ d _ _ h => by cases d <;> exact h) (hBX.kept ((Kept.refl _).drewN _)) ?_
        repeat
          refine Ord.step rfl (fun Ko hK => ?_)
          simp only [Ord.body]
          go_simp
          first
            | (refine hK _ _ ?_; clear hK Ko)
            | (refine ⟨_, fun w' hS => (by have c0 := hS.f0; have c1 := hS.f1; simp only [c0, c1, Result.andThen]; rfl), hK _ _ ?_⟩; clear hK Ko)
            | (refine ⟨(hBX.kept ((Kept.refl _).drewN _)).put (by omega), hK _ _ ?_⟩; clear hK Ko)
            | (refine ⟨((hBX.kept ((Kept.refl _).drewN _)).put (by omega)).put (by omega), hK _ _ ?_⟩; clear hK Ko)
        refine Ord.done ?_
        have KD : Kept w4 (w4.drewN 1) := (Kept.refl w4).drewN 1
        have BN : Hid (BlsAt (((w4.drewN 1).setCell ⟨q, f, none⟩ (.bool true)).setCell ⟨q, t, none⟩ (.bool true)) q N (usedTo es m (k + 1))) := (BlsAt.set (BlsAt.set (B4.out.kept KD) f true) t true).congr (fun u _ => by
          simp only []
          rw [SU.out u]
          by_cases h1 : u = t
          · subst h1; simp
          · have h1' : ¬ (u : Int) = (t : Int) := by omega
            rw [if_neg h1, if_neg h1']
            by_cases h2 : u = f
            · subst h2; simp
            · have h2' : ¬ (u : Int) = (f : Int) := by omega
              rw [if_neg h2, if_neg h2'])
        have KN : Hid (Kept w (((w4.drewN 1).setCell ⟨q, f, none⟩ (.bool true)).setCell ⟨q, t, none⟩ (.bool true))) := ((HK4.out.trans KD).setCell (p := ⟨q, f, none⟩) hqw _).setCell (p := ⟨q, t, none⟩) hqw _
        have hwq : w.heap.size < q := WLT.out
        have WN := hid_of (cell_put2 (i := f) (j := t) (u := .bool true) (v := .bool true) (KD.cell w1e) (by omega : ¬ w.heap.size = q))
        generalize ((w4.drewN 1).setCell ⟨q, f, none⟩ (.bool true)).setCell ⟨q, t, none⟩ (.bool true) = W5 at BN KN WN ⊢
        clear cf ct ff ft a0 a1 hBX B4 HK4 w1e SU
        go_wp2_with fail
        go_roundw
        case rel => exact ⟨k + 1, by omega, by go_num, KN.out, BN.out, WN.out, P.out⟩
        case measure => simp [intOf]; omega
    · obtain rfl : k = lm := by omega
      have HK := hid_of K
      clear K
      go_wp2
      exact bodyPost_end (v := .tuple #[]) (by simp [results, Tryd.results49]) rfl ⟨HK.out, .inl ⟨⟨RIS.out, HNO.out⟩, rfl⟩⟩
end Go.Proofs.YtpdppjngbbkbbaaDoor

/- mustHangTogether. -/
import Derived.Test.YtomopfjaebcpeaaPrO
namespace Go.Proofs.Ytomopfjaebcpeaa
open Go.RowKit

/-- All edges hang together. -/
def HangOk (es : List Ed) (n : Nat) : Prop := ∀ i, i < n → Way (outs (both es)) (edAt es 0).f.toNat (edAt es i).f.toNat

theorem right_rg {N n : Nat} {es : List Ed} (RG : Right N n es) : ∀ e ∈ es, 0 ≤ e.f ∧ e.f < (N : Int) ∧ 0 ≤ e.t ∧ e.t < (N : Int) := fun e he => by
  obtain ⟨i, hi, rfl⟩ := memW_edAt he
  exact RG.ends i (by rw [RG.len]; exact hi)

set_option maxRecDepth 100000 in
set_option linter.unusedSimpArgs false in
set_option maxHeartbeats 4000000 in
theorem hang_calls (ao : Option Addr) (N n cap : Nat) (es : List Ed) (w : World) (h : ERow w ao n cap es) (RG : Right N n es) :
    Calls Try.prog 72 #[.agg #[.int .i64 (N : Int), .slice ao n cap]] w fun e w' => Kept w w' ∧ ((HangOk es n ∧ e = .returned (.tuple #[])) ∨ (¬ HangOk es n ∧ e = .panicked [{ v := .iface 136 (.agg #[.int .i64 221]), recovered := false }])) := by
  have hr := h.room
  have hm := h.most
  unfold maxLen at hm
  have hN := RG.nodes
  have hn := RG.edges
  have KW : Kept w (w.alloc (Obj.cells #[.int .i64 (N : Int), .slice ao n cap] 24)) := (Kept.refl w).alloc _
  have w0 : (w.alloc (Obj.cells #[.int .i64 (N : Int), .slice ao n cap] 24)).cell? ⟨w.heap.size, 0, none⟩ = some (.int .i64 (N : Int)) := by simp [go_sem]
  have w1 : (w.alloc (Obj.cells #[.int .i64 (N : Int), .slice ao n cap] 24)).cell? ⟨w.heap.size, 1, none⟩ = some (.slice ao n cap) := by simp [go_sem]
  have HE := hid_of (h.kept KW)
  have RGH := hid_of RG
  clear h RG
  by_cases hn0 : n = 0
  · subst hn0
    go_enter Try.func72, Try.ntmps72
    go_wp2
    exact bodyPost_ret (v := .tuple #[]) (by simp [results, Try.results72]) rfl ⟨KW, .inl ⟨fun i hi => absurd hi (Nat.not_lt_zero i), rfl⟩⟩
  have hq : ((n : Int) == 0) = false := by simp; omega
  have hnp : 0 < n := by omega
  have hni : (0 : Int) < (n : Int) := by omega
  obtain ⟨b, off, rfl, hc⟩ := HE.out.cell hnp
  obtain ⟨m1, c2, c3, c4⟩ := hc 0 hnp
  obtain ⟨e1, e2, e3, e4⟩ := RGH.out.ends 0 hnp
  obtain ⟨s, hs⟩ : ∃ s : Nat, (edAt es 0).f = (s : Int) := ⟨(edAt es 0).f.toNat, by omega⟩
  have hsN : s < N := by omega
  rw [hs] at m1
  have HSS : Hid ((edAt es 0).f.toNat = s) := by show _ = _; rw [hs]; simp
  have PO := hid_of (fun (w' : World) (K : Kept (w.alloc (Obj.cells #[.int .i64 (N : Int), .slice (some ⟨b, off, none⟩) n cap] 24)) w') => partOf_calls N hN (some ⟨b, off, none⟩) n cap es w' (HE.out.kept K) hn (hid_of (right_rg RGH.out)) s hsN)
  clear hc c2 c3 c4 e1 e2 e3 e4 hs
  go_enter Try.func72, Try.ntmps72
  go_wp2_with fail
  generalize w.alloc (Obj.cells #[.int .i64 (N : Int), .slice (some ⟨b, off, none⟩) n cap] 24) = W1 at KW HE w0 w1 m1 PO ⊢
  simp only [Nat.zero_mul, Nat.add_zero] at m1
  refine Ord.region [(0, 0), (1, 1), (2, 0), (3, 0), (4, 1), (5, 1), (6, 2), (7, 0)] (fun w' => Kept W1 w') (by kernel_rfl) (by kernel_rfl) (by kernel_rfl) (by kernel_rfl) (fun _ _ d _ _ h => by cases d <;> exact h) ((Kept.refl _).drewN _) ?_
  repeat
    refine Ord.step rfl (fun Ko hK => ?_)
    simp only [Ord.body]
    go_simp
    first
      | (refine hK _ _ ?_; clear hK Ko)
      | (refine ⟨_, fun w' hS => (by have c0 := hS.cell w0; have c1 := hS.cell w1; have c2 := hS.cell m1; simp only [c0, c1, c2, Result.andThen]; rfl), hK _ _ ?_⟩; clear hK Ko)
      | (go_at_call 95; refine (PO.out _ ((Kept.refl _).drewN _)).mono ?_; rintro e w5 ⟨g, rfl, bf, BF, HB, K5⟩; refine ⟨((Kept.refl _).drewN _).trans K5, hK _ _ ?_⟩; clear hK Ko)
  refine Ord.done ?_
  have K6 := hid_of (((Kept.refl W1).drewN 1).trans K5)
  have BFH := hid_of BF
  have HBH := hid_of HB
  replace w1 := K6.out.cell w1
  clear K5 BF HB PO w0 m1
  go_wp2_with fail
  go_loopw [4, 19] (fun _ i wr => ∃ (k : Nat), k ≤ n ∧ i = .int .i64 k ∧ Kept w5 wr ∧ ∀ j, j < k → Way (outs (both es)) (edAt es 0).f.toNat (edAt es j).f.toNat) (fun _ i _ => n - (intOf i).toNat)
  case atStart => exact ⟨0, by omega, rfl, Kept.refl _, fun i hi => by omega⟩
  case round =>
    obtain ⟨k, hk, rfl, K, hno⟩ := hrel
    have HNO := hid_of hno
    clear hno
    by_cases hgo : (k : Int) < (n : Int)
    · obtain ⟨b', off', heq, hc⟩ := ((HE.out.kept K6.out).kept K).cell hnp
      obtain ⟨rfl, rfl⟩ : b' = b ∧ off' = off := by simp only [Option.some.injEq, Addr.mk.injEq, and_true] at heq; exact ⟨heq.1.symm, heq.2.symm⟩
      obtain ⟨d1, d2, d3, d4⟩ := hc k (by omega)
      obtain ⟨e1, e2, e3, e4⟩ := RGH.out.ends k (by omega)
      obtain ⟨x, hx⟩ : ∃ x : Nat, (edAt es k).f = (x : Int) := ⟨(edAt es k).f.toNat, by omega⟩
      have hxN : x < N := by omega
      have hxi : (x : Int) < (N : Int) := by omega
      have WB : Hid (bf x = true ↔ Way (outs (both es)) (edAt es 0).f.toNat (edAt es k).f.toNat) := by
        have := HBH.out x hxN
        show _ ↔ _
        rw [HSS.out, hx]
        exact this
      have dx := (BFH.out.kept K).cell hxN
      rw [hx] at d1
      generalize (edAt es k).t = et at d2
      generalize (edAt es k).c = ec at d3
      generalize (edAt es k).k = ek at d4
      have KA := (Kept.refl wr).alloc (Obj.cells #[.int .i64 (x : Int), .int .i64 et, .int .i64 ec, .int .i64 ek] 98)
      have KE := hid_of (K.trans KA)
      have a0 : (wr.alloc (Obj.cells #[.int .i64 (x : Int), .int .i64 et, .int .i64 ec, .int .i64 ek] 98)).cell? ⟨wr.heap.size, 0, none⟩ = some (.int .i64 (x : Int)) := by simp [go_sem]
      have dx2 := KA.cell dx
      clear hc heq e1 e2 e3 e4 dx
      by_cases hb : bf x = true
      · have P : Hid (∀ j, j < k + 1 → Way (outs (both es)) (edAt es 0).f.toNat (edAt es j).f.toNat) := fun j hj => by
          by_cases e : j = k
          · subst e; exact WB.out.1 hb
          · exact HNO.out j (by omega)
        rw [hb] at dx2
        clear hb hx WB K
        go_wp2_with (go_at_call 53; refine (must_ok _).mono ?_; rintro e w' ⟨rfl, rfl⟩)
        go_roundw
        case rel => exact ⟨k + 1, by omega, by go_num, KE.out, P.out⟩
        case measure => simp [intOf]; omega
      · have P : Hid (¬ HangOk es n) := fun t => hb (WB.out.2 (t k (by omega)))
        have hbf : bf x = false := by simpa using hb
        rw [hbf] at dx2
        clear hb hbf hx WB K
        go_wp2_with (go_at_call 53; refine (must_no _).mono ?_; rintro e w' ⟨rfl, rfl⟩)
        exact ⟨rfl, KW.trans (K6.out.trans KE.out), .inr ⟨P.out, rfl⟩⟩
    · obtain rfl : k = n := by omega
      go_wp2
      exact bodyPost_end (v := .tuple #[]) (by simp [results, Try.results72]) rfl ⟨KW.trans (K6.out.trans K), .inl ⟨HNO.out, rfl⟩⟩
end Go.Proofs.Ytomopfjaebcpeaa

/- UnionTurns: the walk of the law. -/
import Derived.Test.YtipkmnhkmnajoaaUnG
namespace Go.Proofs.Ytipkmnhkmnajoaa
open Go.RowKit
open Un

/-- Two sets in one memory, each by itself, both newer than W. -/
structure Two (W w : World) (p g p2 g2 n : Nat) (js ks : List Jn) : Prop where
  ex : ∃ F G, SetsAt w F p g n js ∧ SetsAt w G p2 g2 n ks ∧ (∀ k, F k → W.heap.size ≤ k) ∧ (∀ k, G k → W.heap.size ≤ k) ∧ ∀ k, F k → ¬ G k
  kept : Kept W w

theorem Two.keptBy {W w w' : World} {p g p2 g2 n : Nat} {js ks : List Jn} (h : Two W w p g p2 g2 n js ks) (K : Kept w w') : Two W w' p g p2 g2 n js ks := by
  obtain ⟨F, G, a, b, c, d, e⟩ := h.ex
  exact ⟨⟨F, G, a.kept K, b.kept K, c, d, e⟩, h.kept.trans K⟩
theorem Two.swap {W w : World} {p g p2 g2 n : Nat} {js ks : List Jn} (h : Two W w p g p2 g2 n js ks) : Two W w p2 g2 p g n ks js := by
  obtain ⟨F, G, a, b, c, d, e⟩ := h.ex
  exact ⟨⟨G, F, b, a, d, c, fun k x y => e k y x⟩, h.kept⟩

/-- Join on the first of two. -/
theorem Two.join {W w : World} {p g p2 g2 n : Nat} {js ks : List Jn} (h : Two W w p g p2 g2 n js ks) (u v : Int) :
    Calls Try.prog 34 #[.pointer (some ⟨p, 0, none⟩), .int .i64 u, .int .i64 v] w fun e w' => e = .returned (.tuple #[.bool (freshOf n js u v), .int .i64 (codeOf n u v)]) ∧ Two W w' p g p2 g2 n (stepJ n js u v) ks := by
  obtain ⟨F, G, a, b, c, d, e⟩ := h.ex
  refine (joinZ_calls w F p g n js a u v).mono ?_
  rintro r w' ⟨rfl, F', S, C, D⟩
  have ltG := b.base.lt
  refine ⟨rfl, ⟨F', G, S, b.far C (fun k x y => e k y x), fun k hk => ?_, d, fun k hk hg => ?_⟩, h.kept.ch C c⟩
  · rcases D k hk with t | t
    · exact c k t
    · exact Nat.le_trans h.kept.size t
  · rcases D k hk with t | t
    · exact e k t hg
    · have := ltG k hg; omega

set_option maxRecDepth 100000 in
set_option linter.unusedSimpArgs false in
set_option maxHeartbeats 4000000 in
theorem unionTurnsWalk (ao : Option Addr) (n cap : Nat) (os : List Op3) (w : World) (h : PRow w ao n cap os) :
    Calls Try.prog 8 #[.slice ao n cap] w fun r w' => r = .returned (.bool true) ∧ Kept w w' := by
  have hnot : ∀ (x : Bool) (w : World), (Op.unary .not (.bool x)).run Try.prog w = .ok (.bool (!x)) w := fun _ _ => rfl
  have hr := h.room
  have hm := h.most
  unfold maxLen at hm
  have HP := hid_of h
  clear h
  go_enter Try.func8, Try.ntmps8
  go_wp2_with fail
  refine (awakeU_calls w).mono ?_
  rintro r wa ⟨rfl, K1⟩
  have KA := hid_of K1
  clear K1
  go_wp2_with fail
  refine (new_calls 12 wa (by omega)).mono ?_
  rintro r wb ⟨F, p, rfl, ⟨g, S1⟩, K2, L1⟩
  have KB := hid_of (KA.out.trans K2)
  have SB := hid_of S1
  have LB : Hid (∀ k, F k → w.heap.size ≤ k) := fun k hk => Nat.le_trans KA.out.size (L1 k hk)
  clear S1 K2 L1
  go_wp2_with fail
  refine (new_calls 12 wb (by omega)).mono ?_
  rintro r wc ⟨G, p2, rfl, ⟨g2, S2⟩, K3, L2⟩
  have T0 : Hid (Two w wc p g p2 g2 12 [] []) := ⟨⟨F, G, SB.out.kept K3, S2, LB.out, fun k hk => Nat.le_trans KB.out.size (L2 k hk), fun k hk hg => by have := SB.out.base.lt k hk; have := L2 k hg; omega⟩, KB.out.trans K3⟩
  clear S2 K3 L2 LB SB KB KA
  have e1 : (Option.isNone (some (⟨p, 0, none⟩ : Addr))) = false := rfl
  go_wp2_with fail
  go_loopw [33] (fun i wr => ∃ k : Nat, k ≤ n ∧ i = .int .i64 (k : Int) ∧ Two w wr p g p2 g2 12 (his 12 (fun i => ((opAt os i).u, (opAt os i).v)) k) (his 12 (fun i => ((opAt os (n - 1 - i)).v, (opAt os (n - 1 - i)).u)) k)) (fun i _ => n - (intOf i).toNat)
  case atStart => exact ⟨0, by omega, rfl, T0.out⟩
  case round =>
    obtain ⟨k, hk, rfl, T⟩ := hrel
    have TH := hid_of T
    clear T T0
    by_cases hgo : (k : Int) < (n : Int)
    · obtain ⟨b, off, rfl, hc⟩ := HP.out.cell (by omega)
      obtain ⟨-, c2, c3⟩ := hc k (by omega)
      obtain ⟨d1, d2, d3⟩ := hc (n - 1 - k) (by omega)
      clear hc HP
      have EA : Hid (∃ A B, his 12 (fun i => ((opAt os i).u, (opAt os i).v)) (k + 1) = A ∧ his 12 (fun i => ((opAt os (n - 1 - i)).v, (opAt os (n - 1 - i)).u)) (k + 1) = B) := ⟨_, _, rfl, rfl⟩
      obtain ⟨A, B, ea, eb⟩ := EA.out
      have FA : Hid (A = stepJ 12 (his 12 (fun i => ((opAt os i).u, (opAt os i).v)) k) (opAt os k).u (opAt os k).v) := ea.symm
      have FB : Hid (B = stepJ 12 (his 12 (fun i => ((opAt os (n - 1 - i)).v, (opAt os (n - 1 - i)).u)) k) (opAt os (n - 1 - k)).v (opAt os (n - 1 - k)).u) := eb.symm
      have GA := hid_of ea
      have GB := hid_of eb
      clear ea eb EA
      generalize his 12 (fun i => ((opAt os i).u, (opAt os i).v)) k = js at TH FA
      generalize his 12 (fun i => ((opAt os (n - 1 - i)).v, (opAt os (n - 1 - i)).u)) k = ks at TH FB
      generalize opAt os k = o1 at c2 c3 FA
      generalize opAt os (n - 1 - k) = o2 at d1 d2 d3 FB
      obtain ⟨x0, x1, x2⟩ := o1
      obtain ⟨y0, y1, y2⟩ := o2
      simp only at c2 c3 d1 d2 d3 FA FB
      go_wp2_with fail
      refine Ord.region [(0, 0), (1, 0), (2, 0), (3, 0), (4, 0), (5, 1), (6, 0), (7, 0), (8, 0), (9, 0), (10, 1), (11, 2)] (fun w' => Kept w w') (by kernel_rfl) (by kernel_rfl) (by kernel_rfl) (by kernel_rfl) (fun _ _ d _ _ h => by cases d <;> exact h) (TH.out.kept.drewN _) ?_
      repeat
        refine Ord.step rfl (fun Ko hK => ?_)
        simp only [Ord.body]
        go_simp
        first
          | (refine hK _ _ ?_; clear hK Ko)
          | (refine ⟨_, fun w' hS => (by have c0 := hS.cell c2; simp only [c0, Result.andThen]; rfl), hK _ _ ?_⟩; clear hK Ko)
          | (refine ⟨_, fun w' hS => (by have c0 := hS.cell c3; simp only [c0, Result.andThen]; rfl), hK _ _ ?_⟩; clear hK Ko)
          | (go_at_call 34; refine ((TH.out.keptBy ((Kept.refl _).drewN _)).join _ _).mono ?_; rintro e w1 ⟨rfl, T1⟩; refine ⟨T1.kept, hK _ _ ?_⟩; clear hK Ko)
      refine Ord.done ?_
      rw [← FA.out] at T1
      have T1H := hid_of T1
      have z1 := T1.kept.cell d1
      have z2 := T1.kept.cell d2
      have z3 := T1.kept.cell d3
      have hidx : (n : Int) - 1 - (k : Int) = ((n - 1 - k : Nat) : Int) := by omega
      clear T1 TH c2 c3 d1 d2 d3
      go_wp2_with fail
      refine ((T1H.out.keptBy ((Kept.refl _).alloc _)).swap.join _ _).mono ?_
      rintro e w2 ⟨rfl, T2⟩
      rw [← FB.out] at T2
      have T2H := hid_of T2.swap
      clear T2 T1H z1 z2 z3 FA FB
      go_wp2_with fail
      go_roundw
      case rel => exact ⟨k + 1, by omega, by go_num, by rw [GA.out, GB.out]; exact T2H.out⟩
      case measure => simp [intOf]; omega
    · obtain rfl : k = n := by omega
      have HN := hid_of (fun v hv => his_turned 12 k (fun i => ((opAt os i).u, (opAt os i).v)) (fun i => ((opAt os (k - 1 - i)).v, (opAt os (k - 1 - i)).u)) (fun i hi => rfl) (v := v) hv)
      generalize his 12 (fun i => ((opAt os i).u, (opAt os i).v)) k = js at TH HN
      generalize his 12 (fun i => ((opAt os (k - 1 - i)).v, (opAt os (k - 1 - i)).u)) k = ks at TH HN
      obtain ⟨F', G', SA, SB, LA, LB, -⟩ := TH.out.ex
      have KT := hid_of TH.out.kept
      have EN : nmTo ks 12 = nmTo js 12 := (nmTo_same 12 (fun v hv => HN.out v hv)).symm
      have EH := heads_same 12 (fun v hv => HN.out v hv)
      have hl1 := heads_len SA.good
      have hl2 := heads_len SB.good
      have HL : js.length = ks.length := by omega
      have SAH := hid_of SA
      have SBH := hid_of SB
      have HH := hid_of hl1
      clear SA SB LA LB HN TH EH hl2 hl1 HP
      go_wp2_with fail
      refine (names_calls _ F' p g 12 js SAH.out).mono ?_
      rintro e w3 ⟨⟨ao1, cap1, rfl, J1, -⟩, K3⟩
      have J1H := hid_of J1
      have KH3 := hid_of K3
      clear J1 K3
      go_wp2_with (first
        | (go_at_call 33; refine (names_calls _ G' p2 g2 12 ks (SBH.out.kept KH3.out)).mono ?_; rw [EN]; rintro e w4 ⟨⟨ao2, cap2, rfl, J2, -⟩, K4⟩; have J2H := hid_of J2; have KH4 := hid_of K4; clear J2 K4)
        | (go_at_call 35; refine (intsU_calls ao1 ao2 12 cap1 cap2 (nmTo js 12) _ (J1H.out.kept KH4.out) J2H.out).mono ?_; rintro e w5 ⟨rfl, K5⟩; have KH5 := hid_of ((KH3.out.trans KH4.out).trans K5); have KJ := hid_of (KH4.out.trans K5); clear K5 J2H; have CA := hid_of (count_calls _ F' p g 12 js (SAH.out.kept KH5.out)))
        | (go_at_call 32; refine CA.out.mono ?_; rintro e w6 ⟨rfl, K6⟩; clear CA; have KH6 := hid_of (KH5.out.trans K6); have KJ6 := hid_of (KJ.out.trans K6); clear K6 KJ; have CB := hid_of (count_calls _ G' p2 g2 12 ks (SBH.out.kept KH6.out)))
        | (go_at_call 32; refine CB.out.mono ?_; rintro e w7 ⟨rfl, K7⟩; have KH7 := hid_of (KH6.out.trans K7); have KJ7 := hid_of (KJ6.out.trans K7); clear K7 CB KJ6))
      have JR := hid_of (J1H.out.kept KJ7.out)
      have SS := hid_of (SAH.out.kept KH7.out)
      have KK := hid_of (KT.out.trans KH7.out)
      have hr1 := J1H.out.room
      have hm1 := J1H.out.most
      unfold maxLen at hm1
      clear J1H KJ7 SAH SBH KH3 KH4 KH5 KH6 KH7 KT EN HL hr hm hk hgo
      go_loopw [10, 79] (fun c i wr => ∃ q : Nat, q ≤ 12 ∧ i = .int .i64 (q : Int) ∧ c = .int .i64 ((heads js q : Nat) : Int) ∧ Kept w7 wr) (fun _ i _ => 12 - (intOf i).toNat)
      case atStart => exact ⟨0, by omega, rfl, rfl, Kept.refl _⟩
      case round =>
        obtain ⟨q, hq, rfl, rfl, K8⟩ := hrel
        have K8H := hid_of K8
        have hle : heads js q ≤ q := heads_le js q
        clear K8
        by_cases hgo : (q : Int) < 12
        · obtain ⟨b1, off1, rfl, hc⟩ := JR.out.cell (by omega)
          have S9 := SS.out.kept K8H.out
          obtain ⟨f1, f2, f3⟩ := nm_facts S9.good (v := q) (by omega)
          have f4 := f3 q (by omega) rfl
          have f5 : nm js (nm js q) = nm js q := (nm_eq_iff S9.good f1 (by omega)).2 f2
          have x1 := K8H.out.cell (hc q (by omega))
          have x2 := K8H.out.cell (hc (nm js q) f1)
          rw [nmTo_get js 12 q (by omega)] at x1
          rw [nmTo_get js 12 _ f1, f5] at x2
          obtain ⟨hd, hpos⟩ := memTo_head S9.good (v := q) (by omega)
          have M := hid_of (fun zs hz => members_calls _ F' p g 12 js S9 q (by omega) zs hz)
          have M2 := hid_of (M.out _ (hid_of rfl))
          have EHD : Hid (heads js (q + 1) = heads js q + if nm js q = q then 1 else 0) := rfl
          generalize memTo js (rt js q) 12 = zs at hd hpos M2
          clear hc f2 f3 f5 M
          generalize hh' : heads js (q + 1) = h' at EHD
          have EH' := hid_of hh'
          clear hh'
          generalize heads js q = h0 at EHD hle ⊢
          generalize nm js q = x at x1 x2 f1 f4 hd EHD
          have HD := hid_of hd
          have q1 : ((zs.length : Int) == 0) = false := by rw [beq_eq_false_iff_ne]; omega
          have q2 : ((x : Int) != (x : Int)) = false := by simp
          clear S9 hd
          by_cases ex : x = q
          · subst ex
            have q3 : ((x : Int) == (x : Int)) = true := by simp
            have E2 : h' = h0 + 1 := by have := EHD.out; rwa [if_pos rfl] at this
            have E2H := hid_of E2
            clear EHD E2
            go_wp2_with (go_at_call 37; refine M2.out.mono ?_; rintro e w9 ⟨⟨ao9, cap9, rfl, J9⟩, K9⟩; obtain ⟨b9, off9, rfl, hc9⟩ := J9.cell hpos; have y9 := hc9 0 hpos; rw [HD.out, Nat.add_zero] at y9; have r9 := J9.room; have m9 := J9.most; unfold maxLen at m9; have K9H := hid_of (K8H.out.trans K9); clear J9 K9 hc9 x1 x2)
            go_roundw
            case rel => exact ⟨x + 1, by omega, by go_num, by rw [EH'.out, E2H.out]; go_num, K9H.out⟩
            case measure => simp [intOf]; omega
          · have q3 : ((x : Int) == (q : Int)) = false := by simp; omega
            have E2 : h' = h0 := by have := EHD.out; rwa [if_neg ex] at this
            have E2H := hid_of E2
            clear EHD E2
            go_wp2_with (go_at_call 37; refine M2.out.mono ?_; rintro e w9 ⟨⟨ao9, cap9, rfl, J9⟩, K9⟩; obtain ⟨b9, off9, rfl, hc9⟩ := J9.cell hpos; have y9 := hc9 0 hpos; rw [HD.out, Nat.add_zero] at y9; have r9 := J9.room; have m9 := J9.most; unfold maxLen at m9; have K9H := hid_of (K8H.out.trans K9); clear J9 K9 hc9 x1 x2)
            go_roundw
            case rel => exact ⟨q + 1, by omega, by go_num, by rw [EH'.out, E2H.out], K9H.out⟩
            case measure => simp [intOf]; omega
        · obtain rfl : q = 12 := by omega
          have CA := hid_of (count_calls _ F' p g 12 js (SS.out.kept K8H.out))
          have q4 : (((heads js 12 : Nat) : Int) == ((12 : Nat) : Int) - (js.length : Int)) = true := by have := HH.out; simp; omega
          generalize heads js 12 = h12 at *
          generalize js.length = jl at *
          clear HH SS JR
          go_wp2_with (go_at_call 32; refine CA.out.mono ?_; rintro e w9 ⟨rfl, K9⟩; have K9H := hid_of ((KK.out.trans K8H.out).trans K9); clear K9)
          go_ret
          exact ⟨by simpa using q4, K9H.out⟩
end Go.Proofs.Ytipkmnhkmnajoaa

/- The document's Out, Cut, Ends. -/
import Derived.Test.YtomopfjaebcpeaaPrE
namespace Go.Proofs.Ytomopfjaebcpeaa
open Go.RowKit

set_option maxRecDepth 100000 in
set_option maxHeartbeats 1000000 in
theorem wrongQ_calls (nodes : Int) (ao : Option Addr) (m cap : Nat) (es : List Ed) (w : World) (h : ERow w ao m cap es) (c a : Int) (hf : Hid (faultOf nodes es = (c, a))) (s : Int) (cc : Int) (hcc : Hid (cc = if c = 0 then (if ¬ (0 ≤ s ∧ s < nodes) then 30 else 0) else c)) :
    Calls Try.prog 78 #[.agg #[.int .i64 nodes, .slice ao m cap], .int .i64 s] w fun v w' => v = .returned (.int .i64 cc) ∧ Kept w w' := by
  have KG : Kept w (w.alloc (Obj.cells #[.int .i64 nodes, .slice ao m cap] 24)) := (Kept.refl w).alloc _
  have g0 : (w.alloc (Obj.cells #[.int .i64 nodes, .slice ao m cap] 24)).cell? ⟨w.heap.size, 0, none⟩ = some (.int .i64 nodes) := by simp [go_sem]
  have HE := hid_of (h.kept KG)
  have C := fun (c' a' : Int) (hf' : Hid (faultOf nodes es = (c', a'))) => checkR_calls nodes ao m cap es (w.alloc (Obj.cells #[.int .i64 nodes, .slice ao m cap] 24)) HE.out c' a' hf'
  have CH := hid_of (C c a hf)
  clear h C HE hf
  by_cases hc : c = 0
  · subst hc
    have hcc' := hcc.out
    rw [if_pos rfl] at hcc'
    by_cases h1 : 0 ≤ s
    · by_cases h2 : s < nodes
      · rw [if_neg (by omega)] at hcc'
        subst hcc'
        clear hcc
        go_enter Try.func78, Try.ntmps78
        go_wp2_with fail
        refine CH.out.mono ?_
        rintro e wa ⟨rfl, K1⟩
        have c0 := K1.cell g0
        have KB := hid_of (KG.trans K1)
        clear KG K1 g0 CH
        go_wp2
        go_ret
        exact ⟨rfl, KB.out⟩
      · rw [if_pos (by omega)] at hcc'
        subst hcc'
        clear hcc
        go_enter Try.func78, Try.ntmps78
        go_wp2_with fail
        refine CH.out.mono ?_
        rintro e wa ⟨rfl, K1⟩
        have c0 := K1.cell g0
        have KB := hid_of (KG.trans K1)
        clear KG K1 g0 CH
        go_wp2
        go_ret
        exact ⟨rfl, KB.out⟩
    · rw [if_pos (by omega)] at hcc'
      subst hcc'
      clear hcc
      go_enter Try.func78, Try.ntmps78
      go_wp2_with fail
      refine CH.out.mono ?_
      rintro e wa ⟨rfl, K1⟩
      have c0 := K1.cell g0
      have KB := hid_of (KG.trans K1)
      clear KG K1 g0 CH
      go_wp2
      go_ret
      exact ⟨rfl, KB.out⟩
  · have hcc' := hcc.out
    rw [if_neg hc] at hcc'
    subst hcc'
    have q : (cc == 0) = false := by simpa using hc
    clear hcc
    go_enter Try.func78, Try.ntmps78
    go_wp2_with fail
    refine CH.out.mono ?_
    rintro e wa ⟨rfl, K1⟩
    have c0 := K1.cell g0
    have KB := hid_of (KG.trans K1)
    clear KG K1 g0 CH
    go_wp2
    go_ret
    exact ⟨rfl, KB.out⟩

/-- The code of two ends. -/
def endsOf (nodes : Int) (es : List Ed) (s t : Int) : Int :=
  if (faultOf nodes es).1 ≠ 0 then (faultOf nodes es).1 else if ¬ (0 ≤ s ∧ s < nodes) ∨ ¬ (0 ≤ t ∧ t < nodes) then 30 else if s = t then 120 else 0

set_option maxRecDepth 100000 in
set_option maxHeartbeats 1000000 in
theorem ends_calls (nodes : Int) (ao : Option Addr) (m cap : Nat) (es : List Ed) (w : World) (h : ERow w ao m cap es) (s t : Int) (z : Int) (hz : Hid (endsOf nodes es s t = z)) :
    Calls Try.prog 40 #[.agg #[.int .i64 nodes, .slice ao m cap], .int .i64 s, .int .i64 t] w fun v w' => v = .returned (.int .i64 z) ∧ Kept w w' := by
  obtain ⟨c, a, hf⟩ : ∃ c a, faultOf nodes es = (c, a) := ⟨_, _, rfl⟩
  have hz' := hz.out
  unfold endsOf at hz'
  rw [hf] at hz'
  have KG : Kept w (w.alloc (Obj.cells #[.int .i64 nodes, .slice ao m cap] 24)) := (Kept.refl w).alloc _
  have g0 : (w.alloc (Obj.cells #[.int .i64 nodes, .slice ao m cap] 24)).cell? ⟨w.heap.size, 0, none⟩ = some (.int .i64 nodes) := by simp [go_sem]
  have g1 : (w.alloc (Obj.cells #[.int .i64 nodes, .slice ao m cap] 24)).cell? ⟨w.heap.size, 1, none⟩ = some (.slice ao m cap) := by simp [go_sem]
  have HE := hid_of (h.kept KG)
  have C := fun (s' : Int) (cc : Int) (w' : World) (K : Kept (w.alloc (Obj.cells #[.int .i64 nodes, .slice ao m cap] 24)) w') (hcc : cc = if c = 0 then (if ¬ (0 ≤ s' ∧ s' < nodes) then 30 else 0) else c) => wrongQ_calls nodes ao m cap es w' (HE.out.kept K) c a (hid_of hf) s' cc (hid_of hcc)
  have CH := hid_of C
  clear h C HE hf hz
  by_cases hc : c = 0
  · subst hc
    rw [if_neg (by simp)] at hz'
    by_cases hs : 0 ≤ s ∧ s < nodes
    · by_cases ht : 0 ≤ t ∧ t < nodes
      · rw [if_neg (by omega)] at hz'
        have C1 := hid_of (CH.out s 0 _ (Kept.refl _) (by rw [if_pos rfl, if_neg (by omega)]))
        have C2 := hid_of (fun w' K => CH.out t 0 w' K (by rw [if_pos rfl, if_neg (by omega)]))
        have q : (s == t) = decide (s = t) := rfl
        have HZ := hid_of hz'
        clear CH hs ht hz'
        go_enter Try.func40, Try.ntmps40
        go_wp2_with fail
        refine C1.out.mono ?_
        rintro e wa ⟨rfl, K1⟩
        replace g0 := K1.cell g0
        replace g1 := K1.cell g1
        have K1H := hid_of K1
        clear K1 C1
        go_wp2_with fail
        refine (C2.out _ K1H.out).mono ?_
        rintro e wb ⟨rfl, K2⟩
        have KB := hid_of (KG.trans (K1H.out.trans K2))
        clear KG K1H K2 g0 g1 C2
        by_cases hst : s = t
        · have hz2 := HZ.out
          rw [if_pos hst] at hz2
          subst hz2
          have q2 : (s == t) = true := by simp [hst]
          clear q HZ hst
          go_wp2
          go_ret
          exact ⟨rfl, KB.out⟩
        · have hz2 := HZ.out
          rw [if_neg hst] at hz2
          subst hz2
          have q2 : (s == t) = false := by simpa using hst
          clear q HZ hst
          go_wp2
          go_ret
          exact ⟨rfl, KB.out⟩
      · rw [if_pos (.inr ht)] at hz'
        subst hz'
        have C1 := hid_of (CH.out s 0 _ (Kept.refl _) (by rw [if_pos rfl, if_neg (by omega)]))
        have C2 := hid_of (fun w' K => CH.out t 30 w' K (by rw [if_pos rfl, if_pos ht]))
        clear CH hs ht
        go_enter Try.func40, Try.ntmps40
        go_wp2_with fail
        refine C1.out.mono ?_
        rintro e wa ⟨rfl, K1⟩
        replace g0 := K1.cell g0
        replace g1 := K1.cell g1
        have K1H := hid_of K1
        clear K1 C1
        go_wp2_with fail
        refine (C2.out _ K1H.out).mono ?_
        rintro e wb ⟨rfl, K2⟩
        have KB := hid_of (KG.trans (K1H.out.trans K2))
        clear KG K1H K2 g0 g1 C2
        go_wp2
        go_ret
        exact ⟨rfl, KB.out⟩
    · rw [if_pos (.inl hs)] at hz'
      subst hz'
      have C1 := hid_of (CH.out s 30 _ (Kept.refl _) (by rw [if_pos rfl, if_pos hs]))
      clear CH hs
      go_enter Try.func40, Try.ntmps40
      go_wp2_with fail
      refine C1.out.mono ?_
      rintro e wa ⟨rfl, K1⟩
      have KB := hid_of (KG.trans K1)
      clear KG K1 g0 g1 C1
      go_wp2
      go_ret
      exact ⟨rfl, KB.out⟩
  · rw [if_pos hc] at hz'
    subst hz'
    have q : (c == 0) = false := by simpa using hc
    have C1 := hid_of (CH.out s c _ (Kept.refl _) (by rw [if_neg hc]))
    clear CH hc
    go_enter Try.func40, Try.ntmps40
    go_wp2_with fail
    refine C1.out.mono ?_
    rintro e wa ⟨rfl, K1⟩
    have KB := hid_of (KG.trans K1)
    clear KG K1 g0 g1 C1
    go_wp2
    go_ret
    exact ⟨rfl, KB.out⟩

/-- What goes out of a node, as it comes out in 64 bits. -/
def outWT (es : List Ed) (on : Nat → Int) (v : Int) : Nat → Int
  | 0 => 0
  | k + 1 => if (edAt es k).t = v then IntKind.i64.wrap ((if (edAt es k).f = v then IntKind.i64.wrap (outWT es on v k + on k) else outWT es on v k) - on k) else (if (edAt es k).f = v then IntKind.i64.wrap (outWT es on v k + on k) else outWT es on v k)

theorem outWT_succ (es : List Ed) (on : Nat → Int) (v : Int) (k : Nat) : outWT es on v (k + 1) = if (edAt es k).t = v then IntKind.i64.wrap ((if (edAt es k).f = v then IntKind.i64.wrap (outWT es on v k + on k) else outWT es on v k) - on k) else (if (edAt es k).f = v then IntKind.i64.wrap (outWT es on v k + on k) else outWT es on v k) := rfl

theorem outWT_eq {n : Nat} (hn : n ≤ 4096) (es : List Ed) (on : Nat → Int) (ho : ∀ i, i < n → 0 ≤ on i ∧ on i ≤ 1048576) (v : Int) (k : Nat) (hk : k ≤ n) : outWT es on v k = outTo es on v k := by
  induction k with
  | zero => rfl
  | succ k ih =>
    have b := out_bd hn es on ho v k (by omega)
    have g := ho k (by omega)
    rw [out_succ]
    unfold outWT
    rw [ih (by omega)]
    generalize outTo es on v k = x at b
    generalize on k = y at g
    by_cases h1 : (edAt es k).f = v
    · rw [if_pos h1, if_pos h1, wrap_id (x := x + y) (by omega) (by omega)]
      by_cases h2 : (edAt es k).t = v
      · rw [if_pos h2, if_pos h2, wrap_id (by omega) (by omega)]; omega
      · rw [if_neg h2, if_neg h2]; omega
    · rw [if_neg h1, if_neg h1]
      by_cases h2 : (edAt es k).t = v
      · rw [if_pos h2, if_pos h2, wrap_id (by omega) (by omega)]; omega
      · rw [if_neg h2, if_neg h2]; omega

set_option maxRecDepth 100000 in
set_option linter.unusedSimpArgs false in
set_option maxHeartbeats 2000000 in
theorem outR_calls (nodes : Int) (ao : Option Addr) (n cap : Nat) (es : List Ed) (bo : Option Addr) (m bc : Nat) (on : List Int) (v : Int) (w : World) (h : ERow w ao n cap es) (hJ : JRow w bo m bc on) (hmn : m ≤ n) :
    Calls Try.prog 31 #[.agg #[.int .i64 nodes, .slice ao n cap], .slice bo m bc, .int .i64 v] w fun e w' => e = .returned (.int .i64 (outWT es (zAt on) v m)) ∧ Kept w w' := by
  have hr := h.room
  have hm := h.most
  have hr2 := hJ.room
  have hm2 := hJ.most
  unfold maxLen at hm hm2
  have KW : Kept w (w.alloc (Obj.cells #[.int .i64 nodes, .slice ao n cap] 24)) := (Kept.refl w).alloc _
  have w1 : (w.alloc (Obj.cells #[.int .i64 nodes, .slice ao n cap] 24)).cell? ⟨w.heap.size, 1, none⟩ = some (.slice ao n cap) := by simp [go_sem]
  have HE := hid_of (h.kept KW)
  have HB := hid_of (hJ.kept KW)
  clear h hJ
  go_enter Try.func31, Try.ntmps31
  go_wp2_with fail
  generalize w.alloc (Obj.cells #[.int .i64 nodes, .slice ao n cap] 24) = W1 at KW HE HB w1 ⊢
  go_loopw [7, 8] (fun s i wr => ∃ (k : Nat), k ≤ m ∧ i = .int .i64 k ∧ s = .int .i64 (outWT es (zAt on) v k) ∧ W1 = wr) (fun _ i _ => m - (intOf i).toNat)
  case atStart => exact ⟨0, by omega, rfl, rfl, rfl⟩
  case round =>
    obtain ⟨k, hk, rfl, rfl, rfl⟩ := hrel
    by_cases hgo : (k : Int) < (m : Int)
    · obtain ⟨b, off, rfl, hc⟩ := HE.out.cell (by omega)
      obtain ⟨d1, d2, d3, d4⟩ := hc k (by omega)
      obtain ⟨b2, off2, rfl, hc2⟩ := HB.out.at (by omega)
      have d5 := hc2 k (by omega)
      have SU := hid_of (outWT_succ es (zAt on) v k)
      clear hc hc2 HE HB
      have hki : (k : Int) < (n : Int) := by omega
      generalize outWT es (zAt on) v k = sum at SU
      generalize zAt on k = x at d5 SU
      generalize edAt es k = e at d1 d2 d3 d4 SU
      obtain ⟨ef, et, ec, ek⟩ := e
      simp only at d1 d2 d3 d4 SU
      by_cases h1 : ef = v
      · have q1 : (ef == v) = true := by simp [h1]
        by_cases h2 : et = v
        · have q2 : (et == v) = true := by simp [h2]
          have SV := SU.out
          rw [if_pos h1, if_pos h2] at SV
          have SW := hid_of SV.symm
          clear h1 h2 SV SU
          go_wp2
          go_roundw
          case rel => exact ⟨k + 1, by omega, by go_num, by rw [← SW.out]; try (first | rfl | simp only [IntKind.wrap_i64, wrap64]), by trivial⟩
          case measure => simp [intOf]; omega
        · have q2 : (et == v) = false := by simpa using h2
          have SV := SU.out
          rw [if_pos h1, if_neg h2] at SV
          have SW := hid_of SV.symm
          clear h1 h2 SV SU
          go_wp2
          go_roundw
          case rel => exact ⟨k + 1, by omega, by go_num, by rw [← SW.out]; try (first | rfl | simp only [IntKind.wrap_i64, wrap64]), by trivial⟩
          case measure => simp [intOf]; omega
      · have q1 : (ef == v) = false := by simpa using h1
        by_cases h2 : et = v
        · have q2 : (et == v) = true := by simp [h2]
          have SV := SU.out
          rw [if_neg h1, if_pos h2] at SV
          have SW := hid_of SV.symm
          clear h1 h2 SV SU
          go_wp2
          go_roundw
          case rel => exact ⟨k + 1, by omega, by go_num, by rw [← SW.out]; try (first | rfl | simp only [IntKind.wrap_i64, wrap64]), by trivial⟩
          case measure => simp [intOf]; omega
        · have q2 : (et == v) = false := by simpa using h2
          have SV := SU.out
          rw [if_neg h1, if_neg h2] at SV
          have SW := hid_of SV.symm
          clear h1 h2 SV SU
          go_wp2
          go_roundw
          case rel => exact ⟨k + 1, by omega, by go_num, by rw [← SW.out]; try (first | rfl | simp only [IntKind.wrap_i64, wrap64]), by trivial⟩
          case measure => simp [intOf]; omega
    · obtain rfl : k = m := by omega
      go_wp2
      go_ret
      exact ⟨rfl, KW⟩
end Go.Proofs.Ytomopfjaebcpeaa

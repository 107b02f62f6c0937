/- Apart. -/
import Derived.Test.YtomopfjaebcpeaaPrR
namespace Go.Proofs.Ytomopfjaebcpeaa
open Go.RowKit

/-- Is there an edge on the side, off it, among the first k? -/
def onTo (es : List Ed) (s : Nat → Bool) : Nat → Bool
  | 0 => false
  | k + 1 => onTo es s k || s (edAt es k).f.toNat || s (edAt es k).t.toNat
def offTo (es : List Ed) (s : Nat → Bool) : Nat → Bool
  | 0 => false
  | k + 1 => offTo es s k || !s (edAt es k).f.toNat || !s (edAt es k).t.toNat
theorem onTo_succ (es : List Ed) (s : Nat → Bool) (k : Nat) : onTo es s (k + 1) = (onTo es s k || s (edAt es k).f.toNat || s (edAt es k).t.toNat) := rfl
theorem offTo_succ (es : List Ed) (s : Nat → Bool) (k : Nat) : offTo es s (k + 1) = (offTo es s k || !s (edAt es k).f.toNat || !s (edAt es k).t.toNat) := rfl
theorem onTo_ex {es : List Ed} {s : Nat → Bool} : ∀ {k : Nat}, onTo es s k = true → ∃ i, i < k ∧ (s (edAt es i).f.toNat = true ∨ s (edAt es i).t.toNat = true)
  | 0, h => by simp [onTo] at h
  | k + 1, h => by
    rw [onTo_succ, Bool.or_eq_true, Bool.or_eq_true] at h
    rcases h with (h | h) | h
    · obtain ⟨i, hi, he⟩ := onTo_ex h; exact ⟨i, by omega, he⟩
    · exact ⟨k, by omega, .inl h⟩
    · exact ⟨k, by omega, .inr h⟩
theorem offTo_ex {es : List Ed} {s : Nat → Bool} : ∀ {k : Nat}, offTo es s k = true → ∃ i, i < k ∧ (s (edAt es i).f.toNat = false ∨ s (edAt es i).t.toNat = false)
  | 0, h => by simp [offTo] at h
  | k + 1, h => by
    rw [offTo_succ, Bool.or_eq_true, Bool.or_eq_true] at h
    rcases h with (h | h) | h
    · obtain ⟨i, hi, he⟩ := offTo_ex h; exact ⟨i, by omega, he⟩
    · exact ⟨k, by omega, .inl (by simpa using h)⟩
    · exact ⟨k, by omega, .inr (by simpa using h)⟩

/-- No edge leaves the side. -/
def ShutOk (s : Nat → Bool) (e : Ed) : Prop := s e.f.toNat = true → s e.t.toNat = true
/-- A side that none leaves, with edges on it and off it. -/
def ApartOk (es : List Ed) (N n : Nat) (bs : List Bool) (k : Nat) : Prop := k = N ∧ (∀ i, i < n → ShutOk (bAt bs) (edAt es i)) ∧ onTo es (bAt bs) n = true ∧ offTo es (bAt bs) n = true

set_option maxRecDepth 100000 in
set_option linter.unusedSimpArgs false in
set_option maxHeartbeats 4000000 in
theorem apartLook_calls (fb gb : Nat) (bo : Option Addr) (k bc : Nat) (bs : List Bool) (N : Nat) (ao : Option Addr) (n cap : Nat) (es : List Ed) (w : World) (f0 : w.cell? ⟨fb, 0, none⟩ = some (.slice bo k bc)) (hG : GBox w gb (N : Int) ao n cap) (h : ERow w ao n cap es) (hB : BRow w bo k bc bs) (RG : Right N n es) :
    Calls Try.prog 74 #[.pointer (some ⟨fb, 0, none⟩), .pointer (some ⟨gb, 0, none⟩)] w fun e w' =>
      (ApartOk es N n bs k ∧ e = .returned (.tuple #[]) ∧ Kept w w') ∨ (¬ ApartOk es N n bs k ∧ e = .panicked [{ v := .iface 136 (.agg #[.int .i64 221]), recovered := false }] ∧ Kept w w') := by
  obtain ⟨g0, g1⟩ := hG
  have hN := RG.nodes
  have HE := hid_of h
  have HB := hid_of hB
  have RGH := hid_of RG
  have hr1 := h.room
  have hm1 := h.most
  have hr2 := hB.room
  have hm2 := hB.most
  unfold maxLen at hm1 hm2
  clear h hB RG
  by_cases hkN : k = N
  rotate_left
  · have q : ((k : Int) == (N : Int)) = false := by simp; omega
    go_enter Try.func74, Try.ntmps74
    go_wp2_with (go_at_call 53; refine (must_no _).mono ?_; rintro e w' ⟨rfl, rfl⟩)
    exact ⟨rfl, .inr ⟨fun t => hkN t.1, rfl, Kept.refl _⟩⟩
  subst hkN
  have qkk : ((k : Int) == (k : Int)) = true := by simp
  go_enter Try.func74, Try.ntmps74
  go_wp2_with (go_at_call 53; refine (must_ok _).mono ?_; rintro e w' ⟨rfl, rfl⟩)
  go_loopw [2, 3, 5, 6, 7, 17] (fun a b _ _ _ i wr => ∃ (j : Nat), j ≤ n ∧ i = .int .i64 j ∧ a = .bool (onTo es (bAt bs) j) ∧ b = .bool (offTo es (bAt bs) j) ∧ Kept w wr ∧ ∀ q, q < j → ShutOk (bAt bs) (edAt es q)) (fun _ _ _ _ _ i _ => n - (intOf i).toNat)
  case atStart => exact ⟨0, by omega, rfl, rfl, rfl, Kept.refl _, fun i hi => by omega⟩
  case round =>
    obtain ⟨j, hj, rfl, rfl, rfl, K, hno⟩ := hrel
    have HNO := hid_of hno
    clear hno
    replace f0 := K.cell f0
    by_cases hgo : (j : Int) < (n : Int)
    · obtain ⟨b, off, rfl, hc⟩ := (HE.out.kept K).cell (by omega)
      obtain ⟨d1, d2, d3, d4⟩ := hc j (by omega)
      obtain ⟨e1, e2, e3, e4⟩ := RGH.out.ends j (by omega)
      obtain ⟨b2, off2, rfl, hc2⟩ := (HB.out.kept K).at (by omega)
      have d5 := hc2 (edAt es j).f.toNat (by omega)
      have d6 := hc2 (edAt es j).t.toNat (by omega)
      have SA := hid_of (onTo_succ es (bAt bs) j)
      have SB := hid_of (offTo_succ es (bAt bs) j)
      have HIT : Hid (ShutOk (bAt bs) (edAt es j) → ∀ q, q < j + 1 → ShutOk (bAt bs) (edAt es q)) := fun hb i hi => by
        by_cases e : i = j
        · subst e; exact hb
        · exact HNO.out i (by omega)
      have MISS : Hid (¬ ShutOk (bAt bs) (edAt es j) → ¬ ApartOk es k n bs k) := fun hb q => hb (q.2.1 j (by omega))
      unfold ShutOk at HIT MISS
      clear hc hc2
      generalize onTo es (bAt bs) j = p1 at SA
      generalize offTo es (bAt bs) j = p2 at SB
      generalize edAt es j = e at d1 d2 d3 d4 d5 d6 e1 e2 e3 e4 SA SB HIT MISS
      obtain ⟨ef, et, ec, ek⟩ := e
      simp only at d1 d2 d3 d4 d5 d6 e1 e2 e3 e4 SA SB HIT MISS
      obtain ⟨fn, rfl⟩ : ∃ fn : Nat, ef = (fn : Int) := ⟨ef.toNat, by omega⟩
      obtain ⟨tn, rfl⟩ : ∃ tn : Nat, et = (tn : Int) := ⟨et.toNat, by omega⟩
      simp only [Int.toNat_natCast] at d5 d6 SA SB HIT MISS
      generalize bAt bs fn = x at d5 SA SB HIT MISS
      generalize bAt bs tn = y at d6 SA SB HIT MISS
      have hnot : ∀ (x : Bool) (w : World), (Op.unary .not (.bool x)).run Try.prog w = .ok (.bool (!x)) w := fun _ _ => rfl
      have KE := hid_of (K.alloc (Obj.cells #[.int .i64 (fn : Int), .int .i64 (tn : Int), .int .i64 ec, .int .i64 ek] 98))
      have KA := (Kept.refl wr).alloc (Obj.cells #[.int .i64 (fn : Int), .int .i64 (tn : Int), .int .i64 ec, .int .i64 ek] 98)
      replace d5 := KA.cell d5
      replace d6 := KA.cell d6
      replace f0 := KA.cell f0
      have a0 : (wr.alloc (Obj.cells #[.int .i64 (fn : Int), .int .i64 (tn : Int), .int .i64 ec, .int .i64 ek] 98)).cell? ⟨wr.heap.size, 0, none⟩ = some (.int .i64 (fn : Int)) := by simp [go_sem]
      have a1 : (wr.alloc (Obj.cells #[.int .i64 (fn : Int), .int .i64 (tn : Int), .int .i64 ec, .int .i64 ek] 98)).cell? ⟨wr.heap.size, 1, none⟩ = some (.int .i64 (tn : Int)) := by simp [go_sem]
      clear KA K
      go_upto_region 5 with fail
      generalize wr.alloc (Obj.cells #[.int .i64 (fn : Int), .int .i64 (tn : Int), .int .i64 ec, .int .i64 ek] 98) = W2 at KE d5 d6 f0 a0 a1 ⊢
      clear d1 d2 d3 d4
      refine Ord.region [(0, 1), (1, 0), (2, 1), (3, 0), (4, 1), (5, 1), (6, 0), (7, 1), (8, 0), (9, 1), (10, 0), (11, 0)] (fun w' => Kept W2 w') (by kernel_rfl) (by kernel_rfl) (by kernel_rfl) (by kernel_rfl) (fun _ _ d _ _ h => by cases d <;> exact h) ((Kept.refl _).drewN _) ?_
      repeat
        refine Ord.step rfl (fun Ko hK => ?_)
        simp only [Ord.body]
        go_simp
        first
          | (refine hK _ _ ?_; clear hK Ko)
          | (refine ⟨_, fun w' hS => (by have c0 := hS.cell f0; have c1 := hS.cell d5; have c2 := hS.cell d6; have c3 := hS.cell a0; have c4 := hS.cell a1; simp only [c0, c1, c2, c3, c4, Result.andThen]; rfl), hK _ _ ?_⟩; clear hK Ko)
      refine Ord.done ?_
      have KD := hid_of (KE.out.drewN 1)
      clear d5 d6 f0 a0 a1 KE
      generalize W2.drewN 1 = W3 at KD ⊢
      cases x
      · have P := hid_of (HIT.out (by simp))
        have SA2 := hid_of SA.out.symm
        have SB2 := hid_of SB.out.symm
        clear HIT MISS SA SB
        cases y <;> cases p1 <;> cases p2
        all_goals
          simp only [Bool.or_false, Bool.or_true, Bool.false_or, Bool.true_or, Bool.not_false, Bool.not_true] at SA2 SB2
          go_wp2_with (go_at_call 53; refine (must_ok _).mono ?_; rintro e w' ⟨rfl, rfl⟩)
          go_roundw
          case rel => exact ⟨j + 1, by omega, by go_num, by rw [← SA2.out], by rw [← SB2.out], KD.out, P.out⟩
          case measure => simp [intOf]; omega
      · cases y
        · have P := hid_of (MISS.out (by simp))
          clear HIT MISS SA SB
          go_wp2_with (go_at_call 53; refine (must_no _).mono ?_; rintro e w' ⟨rfl, rfl⟩)
          exact ⟨rfl, .inr ⟨P.out, rfl, KD.out⟩⟩
        · have P := hid_of (HIT.out (by simp))
          have SA2 := hid_of SA.out.symm
          have SB2 := hid_of SB.out.symm
          clear HIT MISS SA SB
          cases p1 <;> cases p2
          all_goals
            simp only [Bool.or_false, Bool.or_true, Bool.false_or, Bool.true_or, Bool.not_false, Bool.not_true] at SA2 SB2
            go_wp2_with (go_at_call 53; refine (must_ok _).mono ?_; rintro e w' ⟨rfl, rfl⟩)
            go_roundw
            case rel => exact ⟨j + 1, by omega, by go_num, by rw [← SA2.out], by rw [← SB2.out], KD.out, P.out⟩
            case measure => simp [intOf]; omega
    · obtain rfl : j = n := by omega
      have HIT : Hid (onTo es (bAt bs) j = true → offTo es (bAt bs) j = true → ApartOk es k j bs k) := fun h1 h2 => ⟨rfl, HNO.out, h1, h2⟩
      have MISS : Hid (¬ (onTo es (bAt bs) j = true ∧ offTo es (bAt bs) j = true) → ¬ ApartOk es k j bs k) := fun h t => h t.2.2
      have HK := hid_of K
      generalize onTo es (bAt bs) j = p1 at HIT MISS
      generalize offTo es (bAt bs) j = p2 at HIT MISS
      clear HNO K f0
      cases p1
      · have P := hid_of (MISS.out (by simp))
        clear HIT MISS
        go_wp2_with (go_at_call 53; refine (must_no _).mono ?_; rintro e w' ⟨rfl, rfl⟩)
        exact ⟨rfl, .inr ⟨P.out, rfl, HK.out⟩⟩
      · cases p2
        · have P := hid_of (MISS.out (by simp))
          clear HIT MISS
          go_wp2_with (go_at_call 53; refine (must_no _).mono ?_; rintro e w' ⟨rfl, rfl⟩)
          exact ⟨rfl, .inr ⟨P.out, rfl, HK.out⟩⟩
        · have P := hid_of (HIT.out (by simp) (by simp))
          clear HIT MISS
          go_wp2_with (go_at_call 53; refine (must_ok _).mono ?_; rintro e w' ⟨rfl, rfl⟩)
          exact bodyPost_end (v := .tuple #[]) (by simp [results, Try.results74]) rfl (.inl ⟨P.out, rfl, HK.out⟩)

open Classical in
/-- What Apart answers. -/
noncomputable def apartAns (nodes : Int) (es : List Ed) (n : Nat) (bs : List Bool) (k : Nat) : Int :=
  if (faultOf nodes es).1 ≠ 0 then (faultOf nodes es).1 else if ApartOk es nodes.toNat n bs k then 0 else 221

set_option maxRecDepth 100000 in
theorem apartEnter (a b : Value) : ∀ w, Sem.run Try.prog (callFunc 74 #[a, b]) w = .ok (.enter 74 #[a, b]) w := fun _ => rfl

set_option maxRecDepth 100000 in
set_option linter.unusedSimpArgs false in
set_option maxHeartbeats 1000000 in
theorem apart_wrap (nodes : Int) (ao : Option Addr) (n cap : Nat) (bo : Option Addr) (k bc : Nat) (w : World) (z : Int)
    (HC : ∀ w1, Kept w w1 → GBox w1 w.heap.size nodes ao n cap → w1.cell? ⟨w.heap.size + 1, 0, none⟩ = some (.slice bo k bc) →
      Calls Try.prog 48 #[.agg #[.int .i64 nodes, .slice ao n cap], .func (.func 74) #[] #[.pointer (some ⟨w.heap.size + 1, 0, none⟩), .pointer (some ⟨w.heap.size, 0, none⟩)]] w1 fun e w2 => e = .returned (.int .i64 z) ∧ Kept w1 w2) :
    Calls Try.prog 29 #[.agg #[.int .i64 nodes, .slice ao n cap], .slice bo k bc] w fun e w' => e = .returned (.int .i64 z) ∧ Kept w w' := by
  have hmf : ∀ (fn : Fn) (first cap : Array Value) (w : World), (Instr.makeFunc fn first cap).run Try.prog w = .ok (.func fn first cap) w := fun _ _ _ _ => rfl
  have KW : Kept w ((w.alloc (Obj.cells #[.int .i64 nodes, .slice ao n cap] 24)).alloc (Obj.cells #[Value.slice bo k bc] 26)) := ((Kept.refl w).alloc _).alloc _
  have c1 : ((w.alloc (Obj.cells #[.int .i64 nodes, .slice ao n cap] 24)).alloc (Obj.cells #[Value.slice bo k bc] 26)).cell? ⟨w.heap.size + 1, 0, none⟩ = some (.slice bo k bc) := by simp [go_sem]
  have hG : GBox ((w.alloc (Obj.cells #[.int .i64 nodes, .slice ao n cap] 24)).alloc (Obj.cells #[Value.slice bo k bc] 26)) w.heap.size nodes ao n cap := ⟨by simp [go_sem], by simp [go_sem]⟩
  have HCH := hid_of (HC _ KW hG c1)
  clear HC hG c1
  go_enter Try.func29, Try.ntmps29
  go_wp2_with fail
  generalize (w.alloc (Obj.cells #[.int .i64 nodes, .slice ao n cap] 24)).alloc (Obj.cells #[Value.slice bo k bc] 26) = W0 at KW HCH ⊢
  refine HCH.out.mono ?_
  rintro e wa ⟨rfl, K1⟩
  have HK := hid_of (KW.trans K1)
  clear KW K1 HCH
  go_wp2
  go_ret
  exact ⟨rfl, HK.out⟩

theorem apart_calls (nodes : Int) (ao : Option Addr) (n cap : Nat) (es : List Ed) (bo : Option Addr) (k bc : Nat) (bs : List Bool) (w : World) (h : ERow w ao n cap es) (hB : BRow w bo k bc bs) (z : Int) (hans : Hid (apartAns nodes es n bs k = z)) :
    Calls Try.prog 29 #[.agg #[.int .i64 nodes, .slice ao n cap], .slice bo k bc] w fun e w' => e = .returned (.int .i64 z) ∧ Kept w w' := by
  refine apart_wrap nodes ao n cap _ _ _ w z fun w1 K1 G c1 => ?_
  replace hans := hans.out
  unfold apartAns at hans
  by_cases hc : (faultOf nodes es).1 = 0
  · have hf := fault_zero hc
    rw [if_neg (by simp [hc])] at hans
    obtain ⟨N, rfl, RG⟩ := right_of hf
    rw [← h.len] at RG
    simp only [Int.toNat_natCast] at hans
    have L := fun (w2 : World) (K : Kept w1 w2) => apartLook_calls (w.heap.size + 1) w.heap.size bo k bc bs N ao n cap es w2 (K.cell c1) (G.kept K) (h.kept (K1.trans K)) (hB.kept (K1.trans K)) RG
    by_cases ok : ApartOk es N n bs k
    · rw [if_pos ok] at hans
      subst hans
      exact looked_okK (N : Int) ao n cap es w1 (h.kept K1) (hid_of hf) 74 #[.pointer (some ⟨w.heap.size + 1, 0, none⟩), .pointer (some ⟨w.heap.size, 0, none⟩)] (apartEnter _ _) fun w2 K => (L w2 K).mono fun e w3 hp => by
        rcases hp with ⟨_, h1, h2⟩ | ⟨h1, _⟩
        · exact ⟨h1, h2⟩
        · exact absurd ok h1
    · rw [if_neg ok] at hans
      subst hans
      exact looked_no (N : Int) ao n cap es w1 (h.kept K1) (hid_of hf) 74 #[.pointer (some ⟨w.heap.size + 1, 0, none⟩), .pointer (some ⟨w.heap.size, 0, none⟩)] (apartEnter _ _) 221 fun w2 K => (L w2 K).mono fun e w3 hp => by
        rcases hp with ⟨h1, _⟩ | ⟨_, h1, h2⟩
        · exact absurd h1 ok
        · exact ⟨h1, h2⟩
  · obtain ⟨c, a, hf⟩ : ∃ c a, faultOf nodes es = (c, a) := ⟨_, _, rfl⟩
    rw [hf] at hans hc
    rw [if_pos hc] at hans
    subst hans
    exact looked_bad nodes ao n cap es w1 (h.kept K1) c a (hid_of hf) hc _
end Go.Proofs.Ytomopfjaebcpeaa

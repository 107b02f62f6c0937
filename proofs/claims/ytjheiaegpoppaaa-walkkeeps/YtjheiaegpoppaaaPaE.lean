/- slices.Grow of nil, slices.Concat of two rows of edges. -/
import Derived.Test.YtjheiaegpoppaaaEdgeW
import Derived.Test.YtjheiaegpoppaaaFrame
import Derived.Laws.Append
import Derived.Deep.LoopGhost
namespace Go.Proofs.Ytjheiaegpoppaaa
open Go.RowKit

/-- append of whatever slice, nil too. -/
theorem wpList_append_anyE {Pr : Program} {w : World} {ops : Array Oper} {rest : List Oper} {o : Oper} {a : Act} {Q : Exit → Act → World → Prop} (hgd : o.guard = none) (s x : Operand) (t : TypeId)
    (ho : o.op = .call { callee := .builtin .append, args := #[s, x], argTypes := #[t, t] })
    (base : Nat) (e : TypeId) (i : TypeInfo) (z : Value) (size bytes : Nat) (ht : Pr.underlying t = some (.slice e)) (hi : Pr.info? e = some i) (hz : i.zero = some z)
    (hsize : i.size = size) (hby : i.bytes = bytes) (hzs : z.cells.size = size) (hsz : 0 < size)
    (v : Value) (n : Nat) (xs : List Value) (hs : a.eval s = v) (hown : w.ownsRow base e size v n xs)
    (ao : Option Addr) (m c : Nat) (news : List Value) (hx : a.eval x = .slice ao m c) (hnil : ao = none → m = 0 ∧ c = 0) (hl : news.length = m * size) (hnews : ∀ ad, ao = some ad → ∀ j u, news[j]? = some u → w.cell? (ad.add j) = some u) (h1 : ∀ u ∈ news, u.oneCell' = true)
    (h63 : n + m ≤ maxLen) (hbytes : (n + m) * bytes ≤ 140737488355328) (hbase : base ≤ w.heap.size)
    (h : ∀ v' w', w'.ownsRow base e size v' (n + m) (xs ++ news) → w.grownBy w' v.ownBlock → wpList Pr ops Q rest (a.put o.dst v') w') :
    wpList Pr ops Q (o :: rest) a w := by
  cases ao with
  | none =>
    obtain ⟨rfl, rfl⟩ := hnil rfl
    have hn : news = [] := List.eq_nil_of_length_eq_zero (by omega)
    subst hn
    refine wpList_plain hgd fun K hK => ?_
    have hr := run_append_owned_none (P := Pr) (w := w) base t o.type e i size ht hi v n xs hown
    unfold Oper.wp execOp
    simp only [ho, resolve, invoke, builtin, Sem.run_bind, Sem.run_pure, Result.andThen_ok, List.map_toArray, List.map_cons, List.map_nil, hs, hx, hr]
    exact hK _ _ (h v w (by rw [List.append_nil]; exact hown) (World.grownBy.refl w _))
  | some ad => exact wpList_append_own w hgd s x t ho base e i z size bytes ht hi hz hsize hby hzs hsz v n xs hs hown ad m c news hx hl (hnews ad rfl) h1 h63 hbytes hbase (fun v' w' a b _ => h v' w' a b)

/-- append(nil, make([]E, n)...). -/
theorem run_append_make {P : Program} (w : World) (t u ty e : TypeId) (i : TypeInfo) (z : Value) (ht : P.underlying t = some (.slice e)) (hu : P.underlying u = some (.int .i64)) (hi : P.info? e = some i) (hz : i.zero = some z) (n : Nat) (h0 : 0 < n) (hs : 0 < i.size) (h48 : n * i.bytes ≤ 281474976710656) (h63 : n ≤ 4611686018427387904) :
    (Builtin.append_ #[t, u] ty #[.slice none 0 0, .int .i64 (n : Int)]).run P w =
      .ok (.slice (some ⟨w.heap.size, 0, none⟩) n (grownCap w n 0 e)) (w.drew.alloc (.cells (Builtin.zeroCells z.cells n ++ Builtin.zeroCells z.cells (grownCap w n 0 e - n)) e)) := by
  have hn : n ≠ 0 := by omega
  have hwr : IntKind.i64.wrap (n : Int) = (n : Int) := by rw [IntKind.wrap_i64]; first | omega | (unfold wrap64; omega)
  have h63' : ¬ (9223372036854775807 < (n : Int)) := by omega
  have hneg : ¬ ((n : Int) < 0) := by omega
  have hb : ¬ (281474976710656 < (n : Int) * (i.bytes : Int)) := by
    have : ((n * i.bytes : Nat) : Int) = (n : Int) * (i.bytes : Int) := by simp
    omega
  have h48' : ¬ (281474976710656 < Builtin.nextslicecap n 0 * i.bytes) := by rw [nextslicecap_zero h0]; omega
  have hs' : i.size ≠ 0 := by omega
  simp [Builtin.append_, run_underlying ht, run_underlying hu, sizeOf, typeInfo, zeroValue, hi, hz, asInt, asIntOf, hn, hwr, hneg, hb, h63', h48', Question.forced, run_firstCells_none, newRow, grownCap]
  intro hh
  exact absurd hh (Nat.mul_ne_zero hn hs')

theorem wpList_append_run {P : Program} {w : World} {ops : Array Oper} {rest : List Oper} {o : Oper} {a : Act} {Q : Exit → Act → World → Prop} (hgd : o.guard = none) (s x : Operand) (t u : TypeId)
    (ho : o.op = .call { callee := .builtin .append, args := #[s, x], argTypes := #[t, u] }) (v y v' : Value) (w' : World) (hs : a.eval s = v) (hx : a.eval x = y) (hrun : (Builtin.append_ #[t, u] o.type #[v, y]).run P w = .ok v' w')
    (h : wpList P ops Q rest (a.put o.dst v') w') : wpList P ops Q (o :: rest) a w := by
  refine wpList_plain hgd fun K hK => ?_
  unfold Oper.wp
  simp [execOp, ho, resolve, invoke, builtin, hs, hx, hrun, Result.andThen]
  exact hK _ _ h

theorem zeroCells_size (z : Array Value) (n : Nat) : (Builtin.zeroCells z n).size = n * z.size := by simp [Builtin.zeroCells]

set_option maxRecDepth 100000 in
set_option maxHeartbeats 2000000 in
theorem grow_calls (n : Nat) (hn : n ≤ 8192) (w : World) :
    Calls Try.prog 55 #[.slice none 0 0, .int .i64 (n : Int)] w fun r w' => ∃ ao cap, r = .returned (.slice ao 0 cap) ∧ w'.ownsRow w.heap.size 42 4 (.slice ao 0 cap) 0 [] ∧ Kept w w' := by
  obtain ⟨i0, hi, hz0, hz1, hz2⟩ := infoE
  by_cases h0 : n = 0
  · subst h0
    go_enter Try.func55, Try.ntmps55
    go_wp2_with fail
    go_ret
    exact ⟨none, 0, rfl, World.ownsRow_nil _ _ _ _, Kept.refl _⟩
  · have hpos : 0 < n := by omega
    have hposi : (0 : Int) < (n : Int) := by omega
    have hap : ∀ (w : World) (ty : TypeId), (Builtin.append_ #[22, 3] ty #[.slice none 0 0, .int .i64 (n : Int)]).run Try.prog w = .ok (.slice (some ⟨w.heap.size, 0, none⟩) n (grownCap w n 0 42)) (w.drew.alloc (.cells (Builtin.zeroCells (Value.agg #[.int .i64 0, .int .i64 0, .int .i64 0, .int .i64 0]).cells n ++ Builtin.zeroCells (Value.agg #[.int .i64 0, .int .i64 0, .int .i64 0, .int .i64 0]).cells (grownCap w n 0 42 - n)) 42)) := fun w ty =>
      run_append_make w 22 3 ty 42 i0 _ Try.underlying22 Try.underlying3 hi hz0 n hpos (by omega) (by rw [hz2]; omega) (by omega)
    have hge := grownCap_ge w n 0 42
    have hle := grownCap_le_maxLen w n 0 42 (by unfold maxLen; omega)
    have OW : Hid ((w.drew.alloc (.cells (Builtin.zeroCells (Value.agg #[.int .i64 0, .int .i64 0, .int .i64 0, .int .i64 0]).cells n ++ Builtin.zeroCells (Value.agg #[.int .i64 0, .int .i64 0, .int .i64 0, .int .i64 0]).cells (grownCap w n 0 42 - n)) 42)).ownsRow w.heap.size 42 4 (.slice (some ⟨w.heap.size, 0, none⟩) 0 (grownCap w n 0 42)) 0 []) := by
      refine World.ownsRow_made w.drew _ (grownCap w n 0 42) (Nat.le_refl _) hle ?_
      rw [Array.size_append, zeroCells_size, zeroCells_size]
      show n * 4 + (grownCap w n 0 42 - n) * 4 = grownCap w n 0 42 * 4
      omega
    have KW : Hid (Kept w (w.drew.alloc (.cells (Builtin.zeroCells (Value.agg #[.int .i64 0, .int .i64 0, .int .i64 0, .int .i64 0]).cells n ++ Builtin.zeroCells (Value.agg #[.int .i64 0, .int .i64 0, .int .i64 0, .int .i64 0]).cells (grownCap w n 0 42 - n)) 42))) := (Kept.refl w).drew.alloc _
    unfold maxLen at hle
    generalize hO : Obj.cells (Builtin.zeroCells (Value.agg #[.int .i64 0, .int .i64 0, .int .i64 0, .int .i64 0]).cells n ++ Builtin.zeroCells (Value.agg #[.int .i64 0, .int .i64 0, .int .i64 0, .int .i64 0]).cells (grownCap w n 0 42 - n)) 42 = O at OW KW
    have hap2 : ∀ (ty : TypeId), (Builtin.append_ #[22, 3] ty #[.slice none 0 0, .int .i64 (n : Int)]).run Try.prog w = .ok (.slice (some ⟨w.heap.size, 0, none⟩) n (grownCap w n 0 42)) (w.drew.alloc O) := fun ty => by rw [← hO]; exact hap w ty
    clear hap hO
    generalize grownCap w n 0 42 = gcap at *
    have hap3 := hid_of hap2
    clear hap2
    go_enter Try.func55, Try.ntmps55
    go_wp2_with (at_builtin; refine wpList_append_run rfl _ _ 22 3 rfl _ _ _ _ rfl rfl (hap3.out _) ?_)
    go_wp2_with fail
    go_ret
    exact ⟨_, _, rfl, OW.out, KW.out⟩

theorem evals_map_len (es : List Ed) (n : Nat) (h : n = es.length) : (evals es).length = n * 4 := by rw [evals_len, h]

set_option maxRecDepth 100000 in
set_option maxHeartbeats 4000000 in
theorem concat_calls (bs : Nat) (a1 a2 : Option Addr) (n1 n2 c1 c2 : Nat) (es1 es2 : List Ed) (w : World) (k0 : w.cell? ⟨bs, 0, none⟩ = some (.slice a1 n1 c1)) (k1 : w.cell? ⟨bs, 0 + 1, none⟩ = some (.slice a2 n2 c2)) (E1 : ERow w a1 n1 c1 es1) (E2 : ERow w a2 n2 c2 es2) (h1 : n1 ≤ 4096) (h2 : n2 ≤ 4096) (nil1 : a1 = none → n1 = 0 ∧ c1 = 0) (nil2 : a2 = none → n2 = 0 ∧ c2 = 0) :
    Calls Try.prog 41 #[.slice (some ⟨bs, 0, none⟩) 2 2] w fun r w' => ∃ ao cap, r = .returned (.slice ao (n1 + n2) cap) ∧ w'.ownsRow w.heap.size 42 4 (.slice ao (n1 + n2) cap) (n1 + n2) (evals (es1 ++ es2)) ∧ Kept w w' := by
  obtain ⟨i0, hi, hz0, hz1, hz2⟩ := infoE
  have r1 := E1.room
  have m1 := E1.most
  have r2 := E2.room
  have m2 := E2.most
  unfold maxLen at m1 m2
  have H1 := hid_of E1
  have H2 := hid_of E2
  have N1 := hid_of nil1
  have N2 := hid_of nil2
  clear E1 E2 nil1 nil2
  go_enter Try.func41, Try.ntmps41
  go_wp2_with fail
  go_loopw [3, 11] (fun s i wr => ∃ k : Nat, k ≤ 2 ∧ i = .int .i64 (k : Int) ∧ s = .int .i64 (((if 1 ≤ k then n1 else 0) + (if 2 ≤ k then n2 else 0) : Nat) : Int) ∧ w = wr) (fun _ i _ => 2 - (intOf i).toNat)
  case atStart => exact ⟨0, by omega, rfl, rfl, rfl⟩
  case round =>
    obtain ⟨k, hk, rfl, rfl, rfl⟩ := hrel
    by_cases hgo : (k : Int) < 2
    · have hkk : k = 0 ∨ k = 1 := by omega
      rcases hkk with rfl | rfl
      · have e0 : ((if 1 ≤ 0 then n1 else 0) + (if 2 ≤ 0 then n2 else 0) : Nat) = 0 := by simp
        rw [e0]
        have hwr : IntKind.i64.wrap (n1 : Int) = (n1 : Int) := by rw [IntKind.wrap_i64]; first | omega | (unfold wrap64; omega)
        have hng : ¬ (n1 : Int) < 0 := by omega
        go_wp2_with fail
        go_roundw
        case rel => exact ⟨1, by omega, by go_num, by simp, (by first | rfl | trivial)⟩
        case measure => simp [intOf]
      · have e0 : ((if 1 ≤ 1 then n1 else 0) + (if 2 ≤ 1 then n2 else 0) : Nat) = n1 := by simp
        rw [e0]
        have hwr : IntKind.i64.wrap ((n1 : Int) + (n2 : Int)) = (n1 : Int) + (n2 : Int) := by rw [IntKind.wrap_i64]; first | omega | (unfold wrap64; omega)
        have hng : ¬ (n1 : Int) + (n2 : Int) < 0 := by omega
        go_wp2_with fail
        go_roundw
        case rel => exact ⟨2, by omega, by go_num, by simp, (by first | rfl | trivial)⟩
        case measure => simp [intOf]
    · obtain rfl : k = 2 := by omega
      have e0 : ((if 1 ≤ 2 then n1 else 0) + (if 2 ≤ 2 then n2 else 0) : Nat) = n1 + n2 := by simp
      rw [e0]
      have GC := hid_of (grow_calls (n1 + n2) (by omega) w)
      go_wp2_with fail
      refine GC.out.mono ?_
      rintro r w1 ⟨ao, cap, rfl, O1, K1⟩
      have O1H := hid_of O1
      have K1H := hid_of K1
      clear O1 K1 GC
      go_wp2_with fail
      go_loopw [6, 27] (fun sv i w2 => ∃ k : Nat, k ≤ 2 ∧ i = .int .i64 (k : Int) ∧ w2.ownsRow w.heap.size 42 4 sv ((if 1 ≤ k then n1 else 0) + (if 2 ≤ k then n2 else 0)) (evals ((if 1 ≤ k then es1 else []) ++ (if 2 ≤ k then es2 else []))) ∧ Kept w w2) (fun _ i _ => 2 - (intOf i).toNat)
      case atStart => exact ⟨0, by omega, rfl, by simpa [evals] using O1H.out, K1H.out⟩
      case round =>
        obtain ⟨k, hk, rfl, O2, K2⟩ := hrel
        clear O1H K1H
        by_cases hgo : (k : Int) < 2
        · have hkk : k = 0 ∨ k = 1 := by omega
          rcases hkk with rfl | rfl
          · have ek : ((if 1 ≤ 0 then n1 else 0) + (if 2 ≤ 0 then n2 else 0) : Nat) = 0 := by simp
            have el : ((if 1 ≤ 0 then es1 else []) ++ (if 2 ≤ 0 then es2 else []) : List Ed) = [] := by simp
            rw [ek, el] at O2
            have kc := K2.cell k0
            have EE := H1.out.kept K2
            have hws : w.heap.size ≤ wr.heap.size := K2.size
            have NWS : Hid (∀ ad, a1 = some ad → ∀ j u, (evals es1)[j]? = some u → wr.cell? (ad.add j) = some u) := fun ad e => by subst e; exact EE.news
            have HPV : Hid ((evals es1).length = n1 * 4) := by show _ = _; rw [evals_len, EE.len]
            have O2H := hid_of O2
            have K2H := hid_of K2
            clear O2 K2 EE ek el
            go_wp2_with (at_builtin; refine wpList_append_anyE rfl _ _ 22 rfl w.heap.size 42 i0 _ 4 32 Try.underlying22 hi hz0 hz1 hz2 rfl (by decide) _ _ _ rfl O2H.out a1 n1 c1 (evals es1) rfl N1.out HPV.out NWS.out (evals_one es1) (by unfold maxLen; omega) (by omega) hws ?_)
            intro v4 W4 own grow
            have K4 : Hid (Kept w W4) := Below.grown K2H.out grow hws (fun k e => (O2H.out.lt k e).1)
            have O4 : Hid (W4.ownsRow w.heap.size 42 4 v4 ((if 1 ≤ 0 + 1 then n1 else 0) + (if 2 ≤ 0 + 1 then n2 else 0)) (evals ((if 1 ≤ 0 + 1 then es1 else []) ++ (if 2 ≤ 0 + 1 then es2 else [])))) := by
              rw [← evals_app] at own
              show World.ownsRow _ _ _ _ _ _ _
              simpa using own
            clear own grow O2H K2H
            go_wp2_with fail
            go_roundw
            case rel => exact ⟨0 + 1, by omega, by go_num, O4.out, K4.out⟩
            case measure => simp [intOf]
          · have ek : ((if 1 ≤ 1 then n1 else 0) + (if 2 ≤ 1 then n2 else 0) : Nat) = n1 := by simp
            have el : ((if 1 ≤ 1 then es1 else []) ++ (if 2 ≤ 1 then es2 else []) : List Ed) = es1 := by simp
            rw [ek, el] at O2
            have kc := K2.cell k1
            have EE := H2.out.kept K2
            have hws : w.heap.size ≤ wr.heap.size := K2.size
            have NWS : Hid (∀ ad, a2 = some ad → ∀ j u, (evals es2)[j]? = some u → wr.cell? (ad.add j) = some u) := fun ad e => by subst e; exact EE.news
            have HPV : Hid ((evals es2).length = n2 * 4) := by show _ = _; rw [evals_len, EE.len]
            have O2H := hid_of O2
            have K2H := hid_of K2
            clear O2 K2 EE ek el
            go_wp2_with (at_builtin; refine wpList_append_anyE rfl _ _ 22 rfl w.heap.size 42 i0 _ 4 32 Try.underlying22 hi hz0 hz1 hz2 rfl (by decide) _ _ _ rfl O2H.out a2 n2 c2 (evals es2) rfl N2.out HPV.out NWS.out (evals_one es2) (by unfold maxLen; omega) (by omega) hws ?_)
            intro v4 W4 own grow
            have K4 : Hid (Kept w W4) := Below.grown K2H.out grow hws (fun k e => (O2H.out.lt k e).1)
            have O4 : Hid (W4.ownsRow w.heap.size 42 4 v4 ((if 1 ≤ 1 + 1 then n1 else 0) + (if 2 ≤ 1 + 1 then n2 else 0)) (evals ((if 1 ≤ 1 + 1 then es1 else []) ++ (if 2 ≤ 1 + 1 then es2 else [])))) := by
              rw [← evals_app] at own
              show World.ownsRow _ _ _ _ _ _ _
              simpa using own
            clear own grow O2H K2H
            go_wp2_with fail
            go_roundw
            case rel => exact ⟨1 + 1, by omega, by go_num, O4.out, K4.out⟩
            case measure => simp [intOf]
        · obtain rfl : k = 2 := by omega
          have ek : ((if 1 ≤ 2 then n1 else 0) + (if 2 ≤ 2 then n2 else 0) : Nat) = n1 + n2 := by simp
          have el : ((if 1 ≤ 2 then es1 else []) ++ (if 2 ≤ 2 then es2 else []) : List Ed) = es1 ++ es2 := by simp
          rw [ek, el] at O2
          obtain ⟨ao2, cap2, rfl⟩ := owns_slice4 O2
          have FO := hid_of O2
          have FK := hid_of K2
          clear O2 K2
          go_wp2_with fail
          go_ret
          exact ⟨ao2, cap2, rfl, FO.out, FK.out⟩
end Go.Proofs.Ytjheiaegpoppaaa

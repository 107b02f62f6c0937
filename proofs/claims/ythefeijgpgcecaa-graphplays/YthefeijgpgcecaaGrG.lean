/- slices.DeleteFunc of the edges at a node. -/
import Derived.Test.YthefeijgpgcecaaGrF
namespace Go.Proofs.Ythefeijgpgcecaa
open Go.RowKit

/-- clear of some edges. -/
theorem run_clear_edges (w : World) (ty : TypeId) (b o m c : Nat) (hm : 0 < m) (hc : ∀ j, j < m * 4 → (w.cell? ⟨b, o + j, none⟩).isSome = true) (hf : ∀ j, j < m * 4 → w.frozen? ⟨b, o + j, none⟩ = false) :
    ∃ zs : List Value, zs.length = m * 4 ∧ (Builtin.clear_ #[22] ty #[.slice (some ⟨b, o, none⟩) m c]).run Try.prog w = .ok (.tuple #[]) (w.setCells b o zs) := by
  obtain ⟨i0, hi, hz0, hz1, hz2⟩ := infoE
  have hv : ∀ w : World, (zeroValue 36).run Try.prog w = .ok (.agg #[.int .i64 0, .int .i64 0, .int .i64 0, .int .i64 0]) w := fun w => by
    simp [zeroValue, typeInfo, hi, hz0]
  obtain ⟨zs, hzs⟩ : ∃ zs, (Builtin.zeroCells (Value.agg #[.int .i64 0, .int .i64 0, .int .i64 0, .int .i64 0]).cells m).toList = zs := ⟨_, rfl⟩
  have hall : zs.length = m * 4 ∧ ∀ v ∈ zs, v.oneCell' = true := by
    rw [← hzs]
    have hcs : (Value.agg #[.int .i64 0, .int .i64 0, .int .i64 0, .int .i64 0]).cells = #[.int .i64 0, .int .i64 0, .int .i64 0, .int .i64 0] := rfl
    rw [hcs]
    refine ⟨by simp [Builtin.zeroCells], fun v hv' => ?_⟩
    simp only [Builtin.zeroCells, Array.toList_map, List.mem_map] at hv'
    obtain ⟨j, _, rfl⟩ := hv'
    have h4 : j % 4 = 0 ∨ j % 4 = 1 ∨ j % 4 = 2 ∨ j % 4 = 3 := by omega
    show ((#[Value.int .i64 0, Value.int .i64 0, Value.int .i64 0, Value.int .i64 0] : Array Value)[j % 4]!).oneCell' = true
    rcases h4 with t | t | t | t <;> rw [t] <;> rfl
  have hst := run_storeCells_cells (P := Try.prog) b o zs 0 w (by rw [hall.1]; simpa using hc) (by rw [hall.1]; simpa using hf) hall.2
  simp only [Nat.add_zero] at hst
  obtain ⟨q, rfl⟩ : ∃ q, m = q + 1 := ⟨m - 1, by omega⟩
  exact ⟨zs, hall.1, by simp [Builtin.clear_, run_underlying Try.underlying22, hv, hzs, hst]⟩

theorem drop_one (M : List Ed) (j : Nat) : M.drop (j + 1) = (M.drop j).drop 1 := by simp [List.drop_drop]

/-- The edges that stay. -/
def stay (v : Int) (es : List Ed) : List Ed := es.filter fun e => !atNode v e

/-- The row while edges are moved down: i of the first j stay. -/
structure DelSt (v : Int) (es L : List Ed) (n i j : Nat) : Prop where
  len : L.length = n
  ij : i ≤ j
  jn : j ≤ n
  low : L.take i = stay v (es.take j)
  high : L.drop j = es.drop j

theorem edAt_drop {es L : List Ed} {j : Nat} (h : L.drop j = es.drop j) : edAt L j = edAt es j := by
  have h1 : (L.drop j)[0]? = (es.drop j)[0]? := by rw [h]
  rw [List.getElem?_drop, List.getElem?_drop, Nat.add_zero] at h1
  unfold edAt
  simp only [List.getD, h1]

theorem stay_snoc (v : Int) (es : List Ed) (j : Nat) (hj : j < es.length) : stay v (es.take (j + 1)) = if atNode v (edAt es j) = true then stay v (es.take j) else stay v (es.take j) ++ [edAt es j] := by
  rw [take_snoc es j hj]
  unfold stay
  rw [List.filter_append]
  cases h : atNode v (edAt es j)
  · simp [h]
  · simp [h]

theorem DelSt.skip {v : Int} {es L : List Ed} {n i j : Nat} (h : DelSt v es L n i j) (hes : es.length = n) (hj : j < n) (ha : atNode v (edAt es j) = true) : DelSt v es L n i (j + 1) := by
  refine ⟨h.len, by have := h.ij; omega, by omega, ?_, ?_⟩
  · rw [stay_snoc v es j (by omega), if_pos ha]; exact h.low
  · rw [drop_one L j, drop_one es j, h.high]

theorem DelSt.move {v : Int} {es L : List Ed} {n i j : Nat} (h : DelSt v es L n i j) (hes : es.length = n) (hj : j < n) (ha : atNode v (edAt es j) = false) : DelSt v es (L.set i (edAt es j)) n (i + 1) (j + 1) := by
  have hij := h.ij
  have hl := h.len
  refine ⟨by rw [List.length_set, h.len], by omega, by omega, ?_, ?_⟩
  · rw [stay_snoc v es j (by omega), if_neg (by simp [ha]), ← h.low, List.take_succ_eq_append_getElem (by rw [List.length_set]; omega), List.take_set, List.getElem_set_self, List.set_eq_of_length_le (by rw [List.length_take]; omega)]
  · rw [List.drop_set_of_lt (by omega), drop_one L j, drop_one es j, h.high]

theorem owns_take {w : World} {base e size n g cap : Nat} {xs : List Value} (h : w.ownsRow base e size (.slice (some ⟨g, 0, none⟩) n cap) n xs) (k : Nat) (hk : k ≤ n) : w.ownsRow base e size (.slice (some ⟨g, 0, none⟩) k cap) k (xs.take (k * size)) := by
  have hks : k * size ≤ n * size := Nat.mul_le_mul_right _ hk
  refine ⟨by rw [List.length_take, h.1]; omega, ?_⟩
  rcases h.2 with ⟨t, _⟩ | ⟨g', cap', cur, t, a, b, c, d, f, i⟩
  · simp at t
  · simp only [Value.slice.injEq, Option.some.injEq, Addr.mk.injEq, and_true, true_and] at t
    obtain ⟨rfl, rfl⟩ := t
    exact .inr ⟨g, cap, cur, rfl, a, b, by omega, d, f, by rw [← i, List.take_take, Nat.min_eq_left hks]⟩

theorem owns_cell {w : World} {base e size n g cap : Nat} {xs : List Value} (h : w.ownsRow base e size (.slice (some ⟨g, 0, none⟩) n cap) n xs) (j : Nat) (hj : j < n * size) : ∃ v, w.cell? ⟨g, j, none⟩ = some v := by
  rw [h.cellAt j hj]
  exact ⟨xs[j]'(by rw [h.1]; exact hj), by simp⟩

theorem stay_all {v : Int} {es : List Ed} (h : ∀ i, i < es.length → atNode v (edAt es i) = false) : stay v es = es := by
  unfold stay
  rw [List.filter_eq_self]
  intro e he
  obtain ⟨k, hk, rfl⟩ := List.getElem_of_mem he
  have := h k hk
  simp only [edAt, List.getD, List.getElem?_eq_getElem hk, Option.getD_some] at this
  simp [this]

theorem first_st {v : Int} {es : List Ed} {n k : Nat} (hes : es.length = n) (hk : k < n) (ha : atNode v (edAt es k) = true) (hno : ∀ i, i < k → atNode v (edAt es i) = false) : DelSt v es es n k (k + 1) := by
  have h0 : DelSt v es es n k k := by
    refine ⟨hes, Nat.le_refl _, by omega, ?_, rfl⟩
    refine (stay_all fun i hi => ?_).symm
    have hi2 : i < k := by rw [List.length_take] at hi; omega
    have : edAt (es.take k) i = edAt es i := by simp [edAt, List.getD, hi2]
    rw [this]; exact hno i hi2
  exact h0.skip hes hk ha

set_option maxRecDepth 100000 in
set_option maxHeartbeats 2000000 in
theorem delF_calls (w : World) (ao : Option Addr) (n cap b : Nat) (v : Int) (es : List Ed) (O : w.ownsRow 0 36 4 (.slice ao n cap) n (evals es)) (hl : Hid (es.length = n)) (hn : n ≤ 4096) (fv : w.cell? ⟨b, 0, none⟩ = some (.int .i64 v)) (hb : (Value.slice ao n cap).ownBlock ≠ some b) :
    Calls Try.prog 34 #[.slice ao n cap, .func (.func 35) #[] #[.pointer (some ⟨b, 0, none⟩)]] w fun r w' => r = .returned (.slice ao (stay v es).length cap) ∧ w'.ownsRow 0 36 4 (.slice ao (stay v es).length cap) (stay v es).length (evals (stay v es)) ∧ Ch (fun k => (Value.slice ao n cap).ownBlock = some k) w w' := by
  have IX := hid_of (index_calls w ao n cap b v es (ERow.of_owns O) fv)
  have hnot : ∀ (x : Bool) (w : World), (Op.unary .not (.bool x)).run Try.prog w = .ok (.bool (!x)) w := fun _ _ => rfl
  have OH := hid_of O
  clear O
  go_enter Try.func34, Try.ntmps34
  go_wp2_with fail
  refine IX.out.mono ?_
  rintro r w1 ⟨⟨x, rfl, FA⟩, K1⟩
  have FAH := hid_of FA
  have K1H := hid_of K1
  have O1 := hid_of (ownsK OH.out K1)
  have f1 := K1.cell fv
  clear IX FA K1 OH
  by_cases hx : x = -1
  · have ST : Hid (stay v es = es) := by
      rcases FAH.out with ⟨_, h2⟩ | ⟨k, _, h3, _⟩
      · exact stay_all (by rw [hl.out]; exact h2)
      · omega
    have q : (x == -1) = true := by simp [hx]
    clear FAH hx
    go_wp2_with fail
    go_ret
    refine ⟨?_, ?_, Ch.of_kept K1H.out⟩
    · rw [ST.out, hl.out]; rfl
    · rw [ST.out, hl.out]; exact O1.out
  · obtain ⟨k, hk, rfl, ha, hno⟩ : ∃ k : Nat, k < n ∧ x = (k : Int) ∧ atNode v (edAt es k) = true ∧ ∀ i, i < k → atNode v (edAt es i) = false := by
      rcases FAH.out with ⟨h1, _⟩ | t
      · exact absurd h1 hx
      · exact t
    have q : ((k : Int) == -1) = false := by rw [beq_eq_false_iff_ne]; omega
    have D0 := hid_of (first_st hl.out hk ha hno)
    obtain ⟨g, cp, eg, -, -⟩ := O1.out.form (by omega)
    simp only [Value.slice.injEq, true_and] at eg
    obtain ⟨rfl, rfl⟩ := eg
    have nbg : ¬ b = g := fun t => hb (by rw [t]; rfl)
    obtain ⟨r1, r2⟩ : n ≤ cap ∧ cap ≤ 9223372036854775807 := by
      rcases O1.out.2 with ⟨t, _⟩ | ⟨g', cap', cur, t, _, _, a, b, _⟩
      · simp at t
      · simp only [Value.slice.injEq, Option.some.injEq, Addr.mk.injEq, and_true, true_and] at t
        obtain ⟨rfl, rfl⟩ := t
        unfold maxLen at b
        exact ⟨a, by omega⟩
    clear FAH hx ha hno hb
    go_wp2_with fail
    go_loopw [5, 6] (fun p j wr => ∃ (i m : Nat) (L : List Ed), p = .int .i64 (i : Int) ∧ j = .int .i64 (m : Int) ∧ i < m ∧ DelSt v es L n i m ∧ wr.ownsRow 0 36 4 (.slice (some ⟨g, 0, none⟩) n cap) n (evals L) ∧ Ch (fun k => k = g) w1 wr) (fun _ j _ => n - (intOf j).toNat)
    case atStart => exact ⟨k, k + 1, es, rfl, by go_num, by omega, D0.out, O1.out, Ch.refl _ _⟩
    case round =>
      obtain ⟨i, m, L, rfl, rfl, him, D, O, C⟩ := hrel
      have DH := hid_of D
      have OH := hid_of O
      have CH := hid_of C
      have hmn := D.jn
      have f2 := C.cell f1 nbg
      clear D0 O1
      by_cases hgo : (m : Int) < (n : Int)
      · have hlL := D.len
        obtain ⟨x1, x2, x3, x4⟩ := evals_get L m (by omega)
        have d1 := (O.cellAt (m * 4) (by omega)).trans x1
        have d2 := (O.cellAt (m * 4 + 1) (by omega)).trans x2
        have d3 := (O.cellAt (m * 4 + 2) (by omega)).trans x3
        have d4 := (O.cellAt (m * 4 + 3) (by omega)).trans x4
        rw [edAt_drop D.high] at d1 d2 d3 d4
        have EQ : Hid (∃ q, atNode v (edAt es m) = q) := ⟨_, rfl⟩
        obtain ⟨q, hq⟩ := EQ.out
        have CC := hid_of (fun W' (t : W'.cell? ⟨b, 0, none⟩ = some (.int .i64 v)) => cn1_calls (edAt es m) v b W' t)
        rw [hq] at CC
        have SK : Hid (q = true → DelSt v es L n i (m + 1)) := fun t => D.skip hl.out (by omega) (by rw [hq]; exact t)
        have MV : Hid (q = false → DelSt v es (L.set i (edAt es m)) n (i + 1) (m + 1)) := fun t => D.move hl.out (by omega) (by rw [hq]; exact t)
        clear x1 x2 x3 x4 D hq EQ DH hlL
        generalize edAt es m = e at d1 d2 d3 d4 CC MV
        obtain ⟨ef, et, ec, ek⟩ := e
        simp only at d1 d2 d3 d4
        have KA := (Kept.refl wr).alloc (Obj.cells #[.int .i64 ef, .int .i64 et, .int .i64 ec, .int .i64 ek] 36)
        have f3 := KA.cell f2
        have e0 : (wr.alloc (Obj.cells #[.int .i64 ef, .int .i64 et, .int .i64 ec, .int .i64 ek] 36)).cell? ⟨wr.heap.size, 0, none⟩ = some (.int .i64 ef) := by simp [go_sem]
        have e1 : (wr.alloc (Obj.cells #[.int .i64 ef, .int .i64 et, .int .i64 ec, .int .i64 ek] 36)).cell? ⟨wr.heap.size, 1, none⟩ = some (.int .i64 et) := by simp [go_sem]
        have e2 : (wr.alloc (Obj.cells #[.int .i64 ef, .int .i64 et, .int .i64 ec, .int .i64 ek] 36)).cell? ⟨wr.heap.size, 2, none⟩ = some (.int .i64 ec) := by simp [go_sem]
        have e3 : (wr.alloc (Obj.cells #[.int .i64 ef, .int .i64 et, .int .i64 ec, .int .i64 ek] 36)).cell? ⟨wr.heap.size, 3, none⟩ = some (.int .i64 ek) := by simp [go_sem]
        clear O C
        go_wp2_with fail
        refine (CC.out _ f3).mono ?_
        rintro r wb ⟨rfl, K2⟩
        have KB := hid_of (KA.trans K2)
        have OB := hid_of (ownsK OH.out KB.out)
        have c0 := K2.cell e0
        have c1 := K2.cell e1
        have c2 := K2.cell e2
        have c3 := K2.cell e3
        have CB := hid_of (CH.out.trans (.of_kept KB.out))
        clear d1 d2 d3 d4 e0 e1 e2 e3 CC KA f2 f3 K2 OH CH
        cases q
        · have MV2 := hid_of (MV.out rfl)
          have hlL : L.length = n := by have := MV2.out.len; rwa [List.length_set] at this
          obtain ⟨x1, y1⟩ := owns_cell OB.out (i * 4) (by omega)
          obtain ⟨x2, y2⟩ := owns_cell OB.out (i * 4 + 1) (by omega)
          obtain ⟨x3, y3⟩ := owns_cell OB.out (i * 4 + 2) (by omega)
          obtain ⟨x4, y4⟩ := owns_cell OB.out (i * 4 + 3) (by omega)
          have g1 := OB.out.frozenAt (i * 4)
          have g2 := OB.out.frozenAt (i * 4 + 1)
          have g3 := OB.out.frozenAt (i * 4 + 2)
          have g4 := OB.out.frozenAt (i * 4 + 3)
          have hin : (i : Int) < (n : Int) := by omega
          have HLL := hid_of hlL
          clear MV SK hlL
          go_wp2_with fail
          have ON := (((((OB.out.stored (i * 4) (.int .i64 ef)).1.stored (i * 4 + 1) (.int .i64 et)).1.stored (i * 4 + 2) (.int .i64 ec)).1.stored (i * 4 + 3) (.int .i64 ek)).1)
          have E4 := evals_set4 L i (by rw [HLL.out]; omega) ⟨ef, et, ec, ek⟩
          simp only at E4
          rw [E4] at ON
          have CN := hid_of ((((CB.out.setCell (F := fun k => k = g) (p := ⟨g, i * 4, none⟩) rfl (.int .i64 ef)).setCell (F := fun k => k = g) (p := ⟨g, i * 4 + 1, none⟩) rfl (.int .i64 et)).setCell (F := fun k => k = g) (p := ⟨g, i * 4 + 2, none⟩) rfl (.int .i64 ec)).setCell (F := fun k => k = g) (p := ⟨g, i * 4 + 3, none⟩) rfl (.int .i64 ek))
          have ONH := hid_of ON
          clear ON E4 OB CB KB y1 y2 y3 y4 g1 g2 g3 g4 c0 c1 c2 c3
          go_roundw
          case rel => exact ⟨i + 1, m + 1, _, by go_num, by go_num, by omega, MV2.out, ONH.out, CN.out⟩
          case measure => simp [intOf]; omega
        · have SK2 := hid_of (SK.out rfl)
          clear MV SK KB c0 c1 c2 c3
          go_wp2_with fail
          go_roundw
          case rel => exact ⟨i, m + 1, L, by go_num, by go_num, by omega, SK2.out, OB.out, CB.out⟩
          case measure => simp [intOf]; omega
      · obtain rfl : m = n := by omega
        have hlow := D.low
        rw [List.take_of_length_le (Nat.le_of_eq hl.out)] at hlow
        have hlL := D.len
        obtain ⟨zs, hz1', hcl⟩ : ∃ zs : List Value, zs.length = (m - i) * 4 ∧ ∀ ty, (Builtin.clear_ #[22] ty #[.slice (some ⟨g, i * 4, none⟩) (m - i) (cap - i)]).run Try.prog wr = .ok (.tuple #[]) (wr.setCells g (i * 4) zs) := by
          obtain ⟨zs, h1, h2⟩ := run_clear_edges wr 0 g (i * 4) (m - i) (cap - i) (by omega) (fun j hj => owns_isSome O _ (by omega)) (fun j _ => O.frozenAt _)
          exact ⟨zs, h1, fun ty => h2⟩
        obtain ⟨O2, C2⟩ := owns_setCells zs (i * 4) O
        have O3 := owns_take O2 i (by omega)
        have e3 : (setL (evals L) (i * 4) zs).take (i * 4) = evals (stay v es) := by
          rw [← hlow, evals_take]
          apply List.ext_getElem?
          intro j
          rw [List.getElem?_take, List.getElem?_take]
          by_cases hj : j < i * 4
          · rw [if_pos hj, if_pos hj, setL_get _ _ _ _ (by rw [evals_len, hlL, hz1']; omega), if_neg (by omega)]
          · rw [if_neg hj, if_neg hj]
        rw [e3] at O3
        have ei : Hid ((stay v es).length = i) := by show (stay v es).length = i; rw [← hlow, List.length_take, hlL]; omega
        have FIN : Hid ((wr.setCells g (i * 4) zs).ownsRow 0 36 4 (.slice (some ⟨g, 0, none⟩) i cap) i (evals (stay v es)) ∧ Ch (fun k => (Value.slice (some ⟨g, 0, none⟩) m cap).ownBlock = some k) w (wr.setCells g (i * 4) zs)) :=
          ⟨O3, ((Ch.of_kept K1H.out).trans ((C.trans C2).mono (fun k t => by rw [t]; rfl)))⟩
        have hic : i ≤ cap := by omega
        have hin : (i : Int) ≤ (m : Int) := by omega
        have hci : ¬ cap = i := by omega
        clear O2 C2 O3 e3 hlow hlL D O C DH OH CH f2 hz1'
        go_wp2_with fail
        refine bodyPost_ret (v := .slice (some ⟨g, 0, none⟩) i cap) (by simp [results, Try.results34, go_sem]) rfl ?_
        rw [ei.out]
        exact ⟨rfl, FIN.out.1, FIN.out.2⟩
end Go.Proofs.Ythefeijgpgcecaa

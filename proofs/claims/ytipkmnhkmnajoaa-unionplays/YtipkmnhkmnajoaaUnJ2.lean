/- The document's Join. -/
import Derived.Test.YtipkmnhkmnajoaaUnJ
namespace Go.Proofs.Ytipkmnhkmnajoaa
open Go.RowKit
open Un

namespace Un
def pcells (p : Nat × Nat) : List Value := [.int .i64 (p.1 : Int), .int .i64 (p.2 : Int)]
def pvals : List (Nat × Nat) → List Value
  | [] => []
  | p :: P => pcells p ++ pvals P
theorem pvals_len (P : List (Nat × Nat)) : (pvals P).length = P.length * 2 := by
  induction P with
  | nil => rfl
  | cons p P ih => simp only [pvals, pcells, List.length_append, List.length_cons, List.length_nil, ih]; omega
theorem pvals_app (P Q : List (Nat × Nat)) : pvals (P ++ Q) = pvals P ++ pvals Q := by
  induction P with
  | nil => rfl
  | cons p P ih => simp only [List.cons_append, pvals, ih, List.append_assoc]
theorem pvals_get (P : List (Nat × Nat)) : ∀ i, i < P.length → (pvals P)[i * 2]? = some (.int .i64 ((prAt P i).1 : Int)) ∧ (pvals P)[i * 2 + 1]? = some (.int .i64 ((prAt P i).2 : Int)) := by
  induction P with
  | nil => intro i hi; simp at hi
  | cons p P ih =>
    intro i hi
    match i with
    | 0 => exact ⟨rfl, rfl⟩
    | i + 1 =>
      have h := ih i (by simpa using hi)
      have hg : ∀ j, (pvals (p :: P))[i * 2 + j + 2]? = (pvals P)[i * 2 + j]? := fun j => by
        show (pcells p ++ pvals P)[i * 2 + j + 2]? = _
        rw [List.getElem?_append_right (by simp [pcells])]
        simp [pcells]
      have ha : prAt (p :: P) (i + 1) = prAt P i := by simp [prAt]
      rw [ha]
      refine ⟨?_, ?_⟩
      · rw [← h.1, show (i + 1) * 2 = i * 2 + 0 + 2 by omega, hg 0]; rfl
      · rw [← h.2, show (i + 1) * 2 + 1 = i * 2 + 1 + 2 by omega, hg 1]
theorem pvals_one (P : List (Nat × Nat)) : ∀ u ∈ pvals P, u.oneCell' = true := by
  induction P with
  | nil => intro u hu; cases hu
  | cons p P ih =>
    intro u hu
    simp only [pvals, pcells, List.mem_append, List.mem_cons, List.not_mem_nil, or_false] at hu
    rcases hu with (rfl | rfl) | hu
    · rfl
    · rfl
    · exact ih u hu
end Un

theorem DRow.of_owns {w : World} {base e : Nat} {ao : Option Addr} {n cap : Nat} {P : List (Nat × Nat)} (h : w.ownsRow base e 2 (.slice ao n cap) n (pvals P)) : DRow w ao n cap P := by
  have hl : P.length = n := by have := h.1; rw [pvals_len] at this; omega
  rcases h.2 with ⟨h1, h2⟩ | ⟨g, cap', cur, h1, _, _, hnc, hm, _⟩
  · simp only [Value.slice.injEq] at h1
    obtain ⟨_, h3, rfl⟩ := h1
    exact ⟨hl.symm, by omega, by unfold maxLen; omega, fun hp => by omega⟩
  · simp only [Value.slice.injEq, true_and] at h1
    obtain ⟨rfl, rfl⟩ := h1
    refine ⟨hl.symm, hnc, hm, fun _ => ⟨g, 0, rfl, fun i hi => ?_⟩⟩
    obtain ⟨v1, v2⟩ := pvals_get P i (by omega)
    rw [Nat.zero_add]
    exact ⟨(h.cellAt _ (by omega)).trans v1, (h.cellAt _ (by omega)).trans v2⟩

theorem DRow.news {w : World} {ad : Addr} {n cap : Nat} {P : List (Nat × Nat)} (h : DRow w (some ad) n cap P) : ∀ j u, (pvals P)[j]? = some u → w.cell? (ad.add j) = some u := by
  intro j u hu
  have hj : j < P.length * 2 := by
    rcases Nat.lt_or_ge j (P.length * 2) with g | g
    · exact g
    · rw [List.getElem?_eq_none (by rw [pvals_len]; exact g)] at hu; cases hu
  have hl := h.len
  obtain ⟨b, off, e, hc⟩ := h.cell (by omega)
  simp only [Option.some.injEq] at e
  subst e
  have ga : ∀ m, (⟨b, off, none⟩ : Addr).add m = ⟨b, off + m, none⟩ := fun m => by
    by_cases hm : m = 0
    · subst hm; simp [Addr.add]
    · simp [Addr.add, hm]
  obtain ⟨q, r, rfl, hr⟩ : ∃ q r, j = q * 2 + r ∧ r < 2 := ⟨j / 2, j % 2, by omega, by omega⟩
  obtain ⟨g1, g2⟩ := hc q (by omega)
  obtain ⟨v1, v2⟩ := pvals_get P q (by omega)
  rw [ga]
  have hm : r = 0 ∨ r = 1 := by omega
  rcases hm with rfl | rfl
  · exact g1.trans (v1.symm.trans hu)
  · exact g2.trans (v2.symm.trans hu)

/-- append of whatever slice, nil too. -/
theorem wpList_append_any {Pr : Program} {w : World} {ops : Array Oper} {rest : List Oper} {o : Oper} {a : Act} {Q : Exit → Act → World → Prop} (hgd : o.guard = none) (s x : Operand) (t : TypeId)
    (ho : o.op = .call { callee := .builtin .append, args := #[s, x], argTypes := #[t, t] })
    (base : Nat) (e : TypeId) (i : TypeInfo) (z : Value) (size bytes : Nat) (ht : Pr.underlying t = some (.slice e)) (hi : Pr.info? e = some i) (hz : i.zero = some z)
    (hsize : i.size = size) (hby : i.bytes = bytes) (hzs : z.cells.size = size) (hsz : 0 < size)
    (v : Value) (n : Nat) (xs : List Value) (hs : a.eval s = v) (hown : w.ownsRow base e size v n xs)
    (ao : Option Addr) (m c : Nat) (news : List Value) (hx : a.eval x = .slice ao m c) (hnil : ao = none → m = 0 ∧ c = 0) (hl : news.length = m * size) (hnews : ∀ ad, ao = some ad → ∀ j u, news[j]? = some u → w.cell? (ad.add j) = some u) (h1 : ∀ u ∈ news, u.oneCell' = true)
    (h63 : n + m ≤ maxLen) (hbytes : (n + m) * bytes ≤ 140737488355328) (hbase : base ≤ w.heap.size)
    (h : ∀ v' w', w'.ownsRow base e size v' (n + m) (xs ++ news) → w.grownBy w' v.ownBlock → wpList Pr ops Q rest (a.put o.dst v') w') :
    wpList Pr ops Q (o :: rest) a w := by
  cases ao with
  | none =>
    obtain ⟨rfl, rfl⟩ := hnil rfl
    have hn : news = [] := List.eq_nil_of_length_eq_zero (by omega)
    subst hn
    refine wpList_plain hgd fun K hK => ?_
    have hr := run_append_owned_none (P := Pr) (w := w) base t o.type e i size ht hi v n xs hown
    unfold Oper.wp execOp
    simp only [ho, resolve, invoke, builtin, Sem.run_bind, Sem.run_pure, Result.andThen_ok, List.map_toArray, List.map_cons, List.map_nil, hs, hx, hr]
    exact hK _ _ (h v w (by rw [List.append_nil]; exact hown) (World.grownBy.refl w _))
  | some ad => exact wpList_append_own w hgd s x t ho base e i z size bytes ht hi hz hsize hby hzs hsz v n xs hs hown ad m c news hx hl (hnews ad rfl) h1 h63 hbytes hbase (fun v' w' a b _ => h v' w' a b)

theorem infoPr0 : (Try.prog.info? 125).map (fun i => (i.zero, i.size, i.bytes)) = some (some (.agg #[.int .i64 0, .int .i64 0]), 2, 16) := by kernel_rfl
theorem infoPr : ∃ i : TypeInfo, Try.prog.info? 125 = some i ∧ i.zero = some (.agg #[.int .i64 0, .int .i64 0]) ∧ i.size = 2 ∧ i.bytes = 16 := by
  have h := infoPr0
  cases e : Try.prog.info? 125 with
  | none => rw [e] at h; cases h
  | some i =>
    rw [e] at h
    simp only [Option.map_some, Option.some.injEq, Prod.mk.injEq] at h
    exact ⟨i, rfl, h.1, h.2.1, h.2.2⟩

theorem cell_new2 (w : World) (T : TypeId) (p : Nat × Nat) : ∀ k u', (pcells p)[k]? = some u' → (w.alloc (Obj.cells #[.int .i64 (p.1 : Int), .int .i64 (p.2 : Int)] T)).cell? ((⟨w.heap.size, 0, none⟩ : Addr).add k) = some u' := by
  intro k u' h
  match k, h with
  | 0, h => simp [pcells] at h; subst h; simp [go_sem, Addr.add]
  | 1, h => simp [pcells] at h; subst h; simp [go_sem, Addr.add]
  | k + 2, h => simp [pcells] at h

/-- Where the numbers are no nodes: the sets as they were. -/
theorem joinRBad_calls (w : World) (n m cap : Nat) (ao : Option Addr) (u v : Int) (hv : ¬ okPair n u v) :
    Calls Try.prog 56 #[.agg #[.int .i64 (n : Int), .slice ao m cap], .int .i64 u, .int .i64 v] w fun e w' => e = .returned (.tuple #[.agg #[.int .i64 (n : Int), .slice ao m cap], .bool false, .int .i64 30]) ∧ Kept w w' := by
  unfold okPair at hv
  by_cases h1 : u < 0
  · clear hv
    go_enter Try.func56, Try.ntmps56
    go_wp2_with fail
    refine bodyPost_ret (v := .tuple #[.agg #[.int .i64 (n : Int), .slice ao m cap], .bool false, .int .i64 30]) (by simp [results, Try.results56, go_sem]) rfl ⟨rfl, ((Kept.refl w).alloc _).alloc _⟩
  by_cases h2 : v < 0
  · clear hv
    go_enter Try.func56, Try.ntmps56
    go_wp2_with fail
    refine bodyPost_ret (v := .tuple #[.agg #[.int .i64 (n : Int), .slice ao m cap], .bool false, .int .i64 30]) (by simp [results, Try.results56, go_sem]) rfl ⟨rfl, ((Kept.refl w).alloc _).alloc _⟩
  by_cases h3 : (n : Int) ≤ u
  · clear hv
    go_enter Try.func56, Try.ntmps56
    go_wp2_with fail
    refine bodyPost_ret (v := .tuple #[.agg #[.int .i64 (n : Int), .slice ao m cap], .bool false, .int .i64 30]) (by simp [results, Try.results56, go_sem]) rfl ⟨rfl, ((Kept.refl w).alloc _).alloc _⟩
  have h4 : (n : Int) ≤ v := by omega
  clear hv
  go_enter Try.func56, Try.ntmps56
  go_wp2_with fail
  refine bodyPost_ret (v := .tuple #[.agg #[.int .i64 (n : Int), .slice ao m cap], .bool false, .int .i64 30]) (by simp [results, Try.results56, go_sem]) rfl ⟨rfl, ((Kept.refl w).alloc _).alloc _⟩

set_option maxRecDepth 100000 in
set_option maxHeartbeats 2000000 in
theorem joinR0_calls (w : World) (n m cap : Nat) (ao : Option Addr) (P : List (Nat × Nat)) (js : List Jn) (h : DocAt w n ao m cap P js) (u v : Nat) (hu : u < n) (hv : v < n) (he : rt js u = rt js v) :
    Calls Try.prog 56 #[.agg #[.int .i64 (n : Int), .slice ao m cap], .int .i64 (u : Int), .int .i64 (v : Int)] w fun e w' => e = .returned (.tuple #[.agg #[.int .i64 (n : Int), .slice ao m cap], .bool false, .int .i64 0]) ∧ Kept w w' := by
  have KG : Kept w ((w.alloc (Obj.cells #[.int .i64 (n : Int), .slice ao m cap] 66)).alloc (Obj.cells #[.int .i64 0, .slice none 0 0] 66)) := ((Kept.refl w).alloc _).alloc _
  have C := hid_of (namesD_calls _ n m cap ao P js (h.kept KG))
  have hu' : (u : Int) < (n : Int) := by omega
  have hv' : (v : Int) < (n : Int) := by omega
  have EU := hid_of (nmTo_get js n u hu)
  have EV := hid_of (nmTo_get js n v hv)
  have EE : nm js u = nm js v := (nm_eq_iff h.good hu hv).2 he
  rw [EE] at EU
  generalize nm js v = x at EU EV
  have few := h.few
  have q : ((x : Int) == (x : Int)) = true := by simp
  have g0 : ((w.alloc (Obj.cells #[.int .i64 (n : Int), .slice ao m cap] 66)).alloc (Obj.cells #[.int .i64 0, .slice none 0 0] 66)).cell? ⟨w.heap.size, 0, none⟩ = some (.int .i64 (n : Int)) := by simp [go_sem]
  have g1 : ((w.alloc (Obj.cells #[.int .i64 (n : Int), .slice ao m cap] 66)).alloc (Obj.cells #[.int .i64 0, .slice none 0 0] 66)).cell? ⟨w.heap.size, 1, none⟩ = some (.slice ao m cap) := by simp [go_sem]
  have r0 : ((w.alloc (Obj.cells #[.int .i64 (n : Int), .slice ao m cap] 66)).alloc (Obj.cells #[.int .i64 0, .slice none 0 0] 66)).cell? ⟨w.heap.size + 1, 0, none⟩ = some (.int .i64 0) := by simp [go_sem]
  have r1 : ((w.alloc (Obj.cells #[.int .i64 (n : Int), .slice ao m cap] 66)).alloc (Obj.cells #[.int .i64 0, .slice none 0 0] 66)).cell? ⟨w.heap.size + 1, 1, none⟩ = some (.slice none 0 0) := by simp [go_sem]
  have r2 : ((w.alloc (Obj.cells #[.int .i64 (n : Int), .slice ao m cap] 66)).alloc (Obj.cells #[.int .i64 0, .slice none 0 0] 66)).frozen? ⟨w.heap.size + 1, 0, none⟩ = false := by simp [go_sem]
  have r3 : ((w.alloc (Obj.cells #[.int .i64 (n : Int), .slice ao m cap] 66)).alloc (Obj.cells #[.int .i64 0, .slice none 0 0] 66)).frozen? ⟨w.heap.size + 1, 1, none⟩ = false := by simp [go_sem]
  clear h he EE
  go_enter Try.func56, Try.ntmps56
  go_wp2_with fail
  refine C.out.mono ?_
  rintro e w1 ⟨⟨ao1, rfl, J1⟩, K1⟩
  obtain ⟨b1, off1, rfl, hc1⟩ := J1.cell (by omega)
  have x1 := hc1 u hu
  have y1 := hc1 v hv
  rw [EU.out] at x1
  rw [EV.out] at y1
  have g0' := K1.cell g0
  have g1' := K1.cell g1
  have s0 := K1.cell r0
  have s1 := K1.cell r1
  have s2 := (Below.frozen (p := ⟨w.heap.size + 1, 0, none⟩) K1 (World.block_lt_of_cell? _ _ r0)).trans r2
  have s3 := (Below.frozen (p := ⟨w.heap.size + 1, 1, none⟩) K1 (World.block_lt_of_cell? _ _ r1)).trans r3
  have KH := hid_of (KG.trans K1)
  clear hc1 J1 K1 C g0 g1 r0 r1 r2 r3 KG
  go_wp2_with fail
  go_quiet (fail)
  obtain ⟨t1, t2, t3, t4⟩ := box2w (w := w1.drewN nq) s0 s1 (.int .i64 (n : Int)) (.slice ao m cap)
  go_wp2_with fail
  refine bodyPost_ret (v := .tuple #[.agg #[.int .i64 (n : Int), .slice ao m cap], .bool false, .int .i64 0]) (by simp [results, Try.results56, go_sem, t3, t4]) rfl ⟨rfl, ?_⟩
  exact ((KH.out.drewN nq).setCell (p := ⟨w.heap.size + 1, 0, none⟩) (by simp only; omega) _).setCell (p := ⟨w.heap.size + 1, 1, none⟩) (by simp only; omega) _

set_option maxRecDepth 100000 in
set_option maxHeartbeats 2000000 in
theorem joinR1_calls (w : World) (n m cap : Nat) (ao : Option Addr) (P : List (Nat × Nat)) (js : List Jn) (h : DocAt w n ao m cap P js) (hnil : ao = none → m = 0 ∧ cap = 0) (u v : Nat) (hu : u < n) (hv : v < n) (he : rt js u ≠ rt js v) :
    Calls Try.prog 56 #[.agg #[.int .i64 (n : Int), .slice ao m cap], .int .i64 (u : Int), .int .i64 (v : Int)] w fun e w' => (∃ ao' cap', e = .returned (.tuple #[.agg #[.int .i64 (n : Int), .slice ao' (m + 1) cap'], .bool true, .int .i64 0]) ∧ DRow w' ao' (m + 1) cap' (P ++ [(u, v)]) ∧ ∀ k, (Value.slice ao' (m + 1) cap').ownBlock = some k → w.heap.size ≤ k) ∧ Kept w w' := by
  have KG : Kept w ((w.alloc (Obj.cells #[.int .i64 (n : Int), .slice ao m cap] 66)).alloc (Obj.cells #[.int .i64 0, .slice none 0 0] 66)) := ((Kept.refl w).alloc _).alloc _
  have C := hid_of (namesD_calls _ n m cap ao P js (h.kept KG))
  obtain ⟨i0, hi, hz0, hz1, hz2⟩ := infoPr
  have hu' : (u : Int) < (n : Int) := by omega
  have hv' : (v : Int) < (n : Int) := by omega
  have EU := hid_of (nmTo_get js n u hu)
  have EV := hid_of (nmTo_get js n v hv)
  have EE : nm js u ≠ nm js v := fun t => he ((nm_eq_iff h.good hu hv).1 t)
  generalize nm js v = y at EV EE
  generalize nm js u = x at EU EE
  have few := h.few
  have hmj : m ≤ 1024 := by have := h.len; have := len_lt h.good; omega
  have q : ((x : Int) == (y : Int)) = false := by rw [beq_eq_false_iff_ne]; omega
  have HD := hid_of h.row
  have hl : P.length = m := h.row.len.symm
  have HPL := hid_of hl
  have g0 : ((w.alloc (Obj.cells #[.int .i64 (n : Int), .slice ao m cap] 66)).alloc (Obj.cells #[.int .i64 0, .slice none 0 0] 66)).cell? ⟨w.heap.size, 0, none⟩ = some (.int .i64 (n : Int)) := by simp [go_sem]
  have g1 : ((w.alloc (Obj.cells #[.int .i64 (n : Int), .slice ao m cap] 66)).alloc (Obj.cells #[.int .i64 0, .slice none 0 0] 66)).cell? ⟨w.heap.size, 1, none⟩ = some (.slice ao m cap) := by simp [go_sem]
  have g2 : ((w.alloc (Obj.cells #[.int .i64 (n : Int), .slice ao m cap] 66)).alloc (Obj.cells #[.int .i64 0, .slice none 0 0] 66)).frozen? ⟨w.heap.size, 1, none⟩ = false := by simp [go_sem]
  have r0 : ((w.alloc (Obj.cells #[.int .i64 (n : Int), .slice ao m cap] 66)).alloc (Obj.cells #[.int .i64 0, .slice none 0 0] 66)).cell? ⟨w.heap.size + 1, 0, none⟩ = some (.int .i64 0) := by simp [go_sem]
  have r1 : ((w.alloc (Obj.cells #[.int .i64 (n : Int), .slice ao m cap] 66)).alloc (Obj.cells #[.int .i64 0, .slice none 0 0] 66)).cell? ⟨w.heap.size + 1, 1, none⟩ = some (.slice none 0 0) := by simp [go_sem]
  have r2 : ((w.alloc (Obj.cells #[.int .i64 (n : Int), .slice ao m cap] 66)).alloc (Obj.cells #[.int .i64 0, .slice none 0 0] 66)).frozen? ⟨w.heap.size + 1, 0, none⟩ = false := by simp [go_sem]
  have r3 : ((w.alloc (Obj.cells #[.int .i64 (n : Int), .slice ao m cap] 66)).alloc (Obj.cells #[.int .i64 0, .slice none 0 0] 66)).frozen? ⟨w.heap.size + 1, 1, none⟩ = false := by simp [go_sem]
  have hsz0 : ((w.alloc (Obj.cells #[.int .i64 (n : Int), .slice ao m cap] 66)).alloc (Obj.cells #[.int .i64 0, .slice none 0 0] 66)).heap.size = w.heap.size + 2 := by simp
  clear h he EE hl
  go_enter Try.func56, Try.ntmps56
  go_wp2_with fail
  refine C.out.mono ?_
  rintro e w1 ⟨⟨ao1, rfl, J1⟩, K1⟩
  obtain ⟨b1, off1, rfl, hc1⟩ := J1.cell (by omega)
  have x1 := hc1 u hu
  have y1 := hc1 v hv
  rw [EU.out] at x1
  rw [EV.out] at y1
  have hs1 : w.heap.size + 2 ≤ w1.heap.size := by have := K1.size; omega
  have KH := hid_of (KG.trans K1)
  have K1H := hid_of K1
  clear hc1 J1 C KG hsz0
  go_wp2_with fail
  go_quiet (fail)
  have K2 := K1H.out.drewN nq
  have KH2 := hid_of (KH.out.drewN nq)
  generalize hW2 : w1.drewN nq = W2 at K2 KH2 ⊢
  have hs2 : w.heap.size + 2 ≤ W2.heap.size := by rw [← hW2]; exact hs1
  have g0' := K2.cell g0
  have g1' := K2.cell g1
  have g2' := (Below.frozen (p := ⟨w.heap.size, 1, none⟩) K2 (World.block_lt_of_cell? _ _ g1)).trans g2
  have s0 := K2.cell r0
  have s1 := K2.cell r1
  have s2 := (Below.frozen (p := ⟨w.heap.size + 1, 0, none⟩) K2 (World.block_lt_of_cell? _ _ r0)).trans r2
  have s3 := (Below.frozen (p := ⟨w.heap.size + 1, 1, none⟩) K2 (World.block_lt_of_cell? _ _ r1)).trans r3
  clear hW2 g0 g1 g2 r0 r1 r2 r3 K1 K2 x1 y1 K1H KH EU EV
  have hm' : IntKind.i64.wrap ((m : Int) + 1) = ((m + 1 : Nat) : Int) := by rw [IntKind.wrap_i64]; first | omega | (unfold wrap64; omega)
  go_wp2_with (at_make; refine wpList_make_own _ rfl _ _ 64 rfl W2.heap.size 125 i0 (.agg #[.int .i64 0, .int .i64 0]) 2 Try.underlying64 hi hz0 hz1 .i64 .i64 _ (m + 1) rfl rfl (by first | rfl | (push_cast; rfl) | exact hm' | omega) (by rw [hz2]; omega) (by unfold maxLen; omega) (Nat.le_refl _) ?_)
  intro W3 own grow
  have K3 : Kept W2 W3 := Below.grown (Kept.refl _) grow (Nat.le_refl _) (fun k e => by simp at e)
  have HO := hid_of own
  have NWS : Hid (∀ ad, ao = some ad → ∀ j u', (pvals P)[j]? = some u' → W3.cell? (ad.add j) = some u') := fun ad e => by
    subst e
    exact ((HD.out.kept KH2.out).kept K3).news
  have h3 := K3.cell g1'
  have B1 : Hid (0 + m ≤ maxLen) := by show 0 + m ≤ maxLen; unfold maxLen; omega
  have B2 : Hid ((0 + m) * 16 ≤ 140737488355328) := by show (0 + m) * 16 ≤ 140737488355328; omega
  have HPV : Hid ((pvals P).length = m * 2) := by show (pvals P).length = m * 2; rw [pvals_len, HPL.out]
  have HNIL := hid_of hnil
  have K3H := hid_of K3
  have hs3 : W2.heap.size ≤ W3.heap.size := K3.size
  clear own grow K3 hnil hm'
  go_wp2_with (at_builtin; refine wpList_append_any rfl _ _ 64 rfl W2.heap.size 125 i0 _ 2 16 Try.underlying64 hi hz0 hz1 hz2 rfl (by decide) _ _ _ rfl HO.out ao m cap (pvals P) rfl HNIL.out HPV.out NWS.out (pvals_one P) B1.out B2.out hs3 ?_)
  intro v4 W4 own grow
  have K4 : Kept W2 W4 := Below.grown K3H.out grow hs3 (fun k e => (HO.out.lt k e).1)
  have O4 := hid_of own
  have hs4 : W2.heap.size ≤ W4.heap.size := K4.size
  have K4H := hid_of K4
  have NW := hid_of (cell_new2 W4 125 (u, v))
  have HM := hid_of (own.alloc (Obj.cells #[.int .i64 (u : Int), .int .i64 (v : Int)] 125))
  have X1 : Hid (m + 1 ≤ maxLen) := by show m + 1 ≤ maxLen; unfold maxLen; omega
  have X2 : Hid ((m + 1) * 16 ≤ 140737488355328) := by show (m + 1) * 16 ≤ 140737488355328; omega
  clear own grow K4 HO NWS h3 B1 B2 HPV K3H
  go_wp2_with (at_builtin; refine wpList_append_own_at _ rfl _ _ 64 rfl W2.heap.size 125 i0 _ 2 16 Try.underlying64 hi hz0 hz1 hz2 rfl (by decide) _ _ _ rfl HM.out ⟨W4.heap.size, 0, none⟩ 1 1 (pcells (u, v)) rfl rfl NW.out (by intro x hx; simp only [pcells, List.mem_cons, List.not_mem_nil, or_false] at hx; rcases hx with rfl | rfl <;> rfl) X1.out X2.out (by simp; omega) ?_)
  intro v5 W5 own grow _ _
  have K5 : Kept W2 W5 := Below.grown (K4H.out.alloc _) grow (by simp; omega) (fun k e => (O4.out.lt k e).1)
  have e5 : pvals P ++ pcells (u, v) = pvals (P ++ [(u, v)]) := by rw [pvals_app]; simp [pvals]
  rw [e5] at own
  obtain ⟨g5, cap5, rfl, hg5, -⟩ := own.form (by omega)
  have a0 := K5.cell g0'
  have a1 := K5.cell g1'
  have a2 := (Below.frozen (p := ⟨w.heap.size, 1, none⟩) K5 (World.block_lt_of_cell? _ _ g1')).trans g2'
  have b0 := K5.cell s0
  have b1' := K5.cell s1
  have b2 := (Below.frozen (p := ⟨w.heap.size + 1, 0, none⟩) K5 (World.block_lt_of_cell? _ _ s0)).trans s2
  have b3 := (Below.frozen (p := ⟨w.heap.size + 1, 1, none⟩) K5 (World.block_lt_of_cell? _ _ s1)).trans s3
  have K5H := hid_of (KH2.out.trans K5)
  have O5 := hid_of own
  clear own grow K5 e5 O4 K4H HM NW X1 X2 g0' g1' g2' s0 s1 s2 s3
  go_wp2_with fail
  have c0 : (W5.setCell ⟨w.heap.size, 1, none⟩ (.slice (some ⟨g5, 0, none⟩) (m + 1) cap5)).cell? ⟨w.heap.size + 1, 0, none⟩ = some (.int .i64 0) := by rw [World.cell?_setCell_other _ _ _ _ (by simp)]; exact b0
  have c1 : (W5.setCell ⟨w.heap.size, 1, none⟩ (.slice (some ⟨g5, 0, none⟩) (m + 1) cap5)).cell? ⟨w.heap.size + 1, 1, none⟩ = some (.slice none 0 0) := by rw [World.cell?_setCell_other _ _ _ _ (by simp)]; exact b1'
  obtain ⟨t1, t2, t3, t4⟩ := box2w c0 c1 (.int .i64 (n : Int)) (.slice (some ⟨g5, 0, none⟩) (m + 1) cap5)
  have O6 := ownsRow_setCell_below (ownsRow_setCell_below (ownsRow_setCell_below O5.out (a := ⟨w.heap.size, 1, none⟩) (by simp only; omega) (.slice (some ⟨g5, 0, none⟩) (m + 1) cap5)) (a := ⟨w.heap.size + 1, 0, none⟩) (by simp only; omega) (.int .i64 (n : Int))) (a := ⟨w.heap.size + 1, 1, none⟩) (by simp only; omega) (.slice (some ⟨g5, 0, none⟩) (m + 1) cap5)
  have K6 := ((K5H.out.setCell (p := ⟨w.heap.size, 1, none⟩) (by simp only; omega) (.slice (some ⟨g5, 0, none⟩) (m + 1) cap5)).setCell (p := ⟨w.heap.size + 1, 0, none⟩) (by simp only; omega) (.int .i64 (n : Int))).setCell (p := ⟨w.heap.size + 1, 1, none⟩) (by simp only; omega) (.slice (some ⟨g5, 0, none⟩) (m + 1) cap5)
  refine bodyPost_ret (v := .tuple #[.agg #[.int .i64 (n : Int), .slice (some ⟨g5, 0, none⟩) (m + 1) cap5], .bool true, .int .i64 0]) (by simp [results, Try.results56, go_sem, t3, t4]) rfl ?_
  refine ⟨⟨_, _, rfl, DRow.of_owns O6, fun k e => ?_⟩, K6⟩
  simp only [Value.ownBlock, Option.some.injEq] at e
  omega
end Go.Proofs.Ytipkmnhkmnajoaa

/- A region that draws its order, by facts that outlast whatever comes after: each operation is looked at once, in any world in which the facts of what it waits for hold. Nothing of the program. -/
import Derived.OrdersHeld
import Derived.Tactics
import Derived.Tactics2
import Derived.KernelRfl
import Derived.Deep.Draws
import Derived.Test.YtjheiaegpoppaaaBase
namespace Go.Proofs.Ytjheiaegpoppaaa.Fact
open Go

section
variable {P : Program} {ops : Array Oper} {Q : Exit → Act → World → Prop}

def dstOf (ops : Array Oper) (j : Nat) : Option Tmp := (ops[j]?).bind (·.dst)

/-- The values of the operations that have come up, put in the text's order. -/
def puts (ops : Array Oper) (L : Nat → Bool) (vs : Nat → Value) : List Nat → Act → Act
  | [], a => a
  | j :: l, a => puts ops L vs l (if L j then a.put (dstOf ops j) (vs j) else a)

def upd {α : Type} (f : Nat → α) (i : Nat) (x : α) : Nat → α := fun j => if j = i then x else f j

theorem upd_same {α : Type} (f : Nat → α) (i : Nat) (x : α) : upd f i x i = x := by simp [upd]
theorem upd_ne {α : Type} (f : Nat → α) {i j : Nat} (x : α) (h : j ≠ i) : upd f i x j = f j := by simp [upd, h]

theorem puts_congr {L L' : Nat → Bool} {vs vs' : Nat → Value} : ∀ (l : List Nat) (a : Act), (∀ j ∈ l, L j = L' j ∧ vs j = vs' j) → puts ops L vs l a = puts ops L' vs' l a
  | [], _, _ => rfl
  | j :: l, a, h => by
    simp only [puts]
    rw [(h j (by simp)).1, (h j (by simp)).2]
    exact puts_congr l _ fun k hk => h k (by simp [hk])

def Apart (ops : Array Oper) : Prop := ∀ i j d, i ≠ j → dstOf ops i = some d → dstOf ops j ≠ some d

theorem puts_put (L : Nat → Bool) (vs : Nat → Value) (x : Option Tmp) (v : Value) : ∀ (l : List Nat) (a : Act), (∀ j ∈ l, ∀ d, x = some d → dstOf ops j ≠ some d) → puts ops L vs l (a.put x v) = (puts ops L vs l a).put x v
  | [], _, _ => rfl
  | j :: l, a, h => by
    simp only [puts]
    rw [← puts_put L vs x v l _ (fun k hk => h k (by simp [hk]))]
    congr 1
    split
    · exact Act.put_comm a v (vs j) (h j (by simp))
    · rfl

theorem puts_upd (hA : Apart ops) {L : Nat → Bool} {vs : Nat → Value} {i : Nat} {v : Value} (hL : L i = false) : ∀ (l : List Nat) (a : Act), i ∈ l → l.Nodup → puts ops (upd L i true) (upd vs i v) l a = (puts ops L vs l a).put (dstOf ops i) v
  | [], _, h, _ => by cases h
  | j :: l, a, h, hn => by
    simp only [puts]
    obtain ⟨hj, hn'⟩ := List.nodup_cons.1 hn
    by_cases e : j = i
    · subst e
      rw [upd_same, upd_same, hL, puts_congr (L' := L) (vs' := vs) l _ (fun k hk => ⟨upd_ne _ _ (fun e : k = j => hj (e ▸ hk)), upd_ne _ _ (fun e : k = j => hj (e ▸ hk))⟩)]
      simp only [if_true, Bool.false_eq_true, if_false]
      exact puts_put L vs _ v l a fun k hk d hd => hA j k d (fun e => hj (e ▸ hk)) hd
    · rw [upd_ne _ _ e, upd_ne _ _ e]
      exact puts_upd hA hL l _ ((List.mem_cons.1 h).resolve_left fun h => e h.symm) hn'

theorem eval_puts_none {L : Nat → Bool} {vs : Nat → Value} {t : Tmp} : ∀ (l : List Nat) (a : Act), (∀ j ∈ l, L j = true → dstOf ops j ≠ some t) → (puts ops L vs l a).eval (.tmp t) = a.eval (.tmp t)
  | [], _, _ => rfl
  | j :: l, a, h => by
    simp only [puts]
    rw [eval_puts_none l _ fun k hk => h k (by simp [hk])]
    split
    · rename_i hl
      exact Act.eval_put fun d hd e => h j (by simp) hl (by rw [hd]; cases e; rfl)
    · rfl

theorem eval_puts_some (hA : Apart ops) {L : Nat → Bool} {vs : Nat → Value} {t : Tmp} {j : Nat} (hL : L j = true) (hd : dstOf ops j = some t) : ∀ (l : List Nat) (a : Act), j ∈ l → l.Nodup → (puts ops L vs l a).eval (.tmp t) = (a.put (some t) (vs j)).eval (.tmp t)
  | [], _, h, _ => by cases h
  | k :: l, a, h, hn => by
    simp only [puts]
    obtain ⟨hk, hn'⟩ := List.nodup_cons.1 hn
    by_cases e : k = j
    · subst e
      rw [if_pos hL, hd]
      exact eval_puts_none l _ fun q hq _ => hA k q t (fun e => hk (e ▸ hq)) hd
    · rw [eval_puts_some hA hL hd l _ ((List.mem_cons.1 h).resolve_left fun h => e h.symm) hn']
      split
      · rw [Act.put_comm a (vs k) (vs j) (fun d h1 h2 => hA k j d e h1 (by rw [hd]; exact h2))]
        exact Act.eval_put fun d h1 h2 => hA k j d e h1 (by rw [hd]; cases h2; rfl)
      · rfl

def cnt (L : Nat → Bool) : List Nat → Nat
  | [] => 0
  | j :: l => (if L j then 0 else 1) + cnt L l

theorem cnt_congr {L L' : Nat → Bool} : ∀ (l : List Nat), (∀ j ∈ l, L j = L' j) → cnt L l = cnt L' l
  | [], _ => rfl
  | j :: l, h => by simp only [cnt]; rw [h j (by simp), cnt_congr l fun k hk => h k (by simp [hk])]

theorem cnt_upd {L : Nat → Bool} {i : Nat} (hL : L i = false) : ∀ (l : List Nat), i ∈ l → l.Nodup → cnt L l = cnt (upd L i true) l + 1
  | [], h, _ => by cases h
  | j :: l, h, hn => by
    obtain ⟨hj, hn'⟩ := List.nodup_cons.1 hn
    simp only [cnt]
    by_cases e : j = i
    · subst e
      rw [upd_same, hL, cnt_congr (L' := L) l fun k hk => upd_ne _ _ (fun e : k = j => hj (e ▸ hk))]
      simp; omega
    · rw [upd_ne _ _ e, cnt_upd hL l ((List.mem_cons.1 h).resolve_left fun h => e h.symm) hn']
      omega

theorem cnt_zero {L : Nat → Bool} : ∀ (l : List Nat), cnt L l = 0 → ∀ j ∈ l, L j = true
  | [], _, _, h => by cases h
  | k :: l, h, j, hj => by
    simp only [cnt] at h
    rcases List.mem_cons.1 hj with rfl | hj
    · cases e : L j
      · rw [e] at h; simp at h
      · rfl
    · exact cnt_zero l (by omega) j hj

/-- What is looked up in the text of the region alone. -/
def okB (ops : Array Oper) (m : Nat) : Bool :=
  Region.noSelect ops &&
  (List.range ops.size).all fun i => match ops[i]? with
    | none => false
    | some o => o.guard.isNone &&
      (o.after.all fun e => !Region.binds .any e || decide (e.on < i)) &&
      ((List.range ops.size).all fun j => decide (j = i) || (match o.dst with | none => true | some d => dstOf ops j != some d)) &&
      (if i < m then o.op.operands.all fun x => match x with
          | .tmp t => ((List.range ops.size).all fun j => dstOf ops j != some t) || (o.after.any fun e => Region.binds .any e && dstOf ops e.on == some t)
          | _ => true
        else (List.range m).all fun j => o.after.any fun e => Region.binds .any e && e.on == j)

theorem puts_size {L : Nat → Bool} {vs : Nat → Value} : ∀ (l : List Nat) (a : Act), (puts ops L vs l a).tmps.size = a.tmps.size
  | [], _ => rfl
  | j :: l, a => by
    simp only [puts]
    rw [puts_size l]
    split
    · cases dstOf ops j <;> simp [Act.put]
    · rfl

theorem put_inj {a : Act} {d : Tmp} {v u : Value} (hd : d < a.tmps.size) (h : a.put (some d) v = a.put (some d) u) : v = u := by
  have := congrArg (fun b : Act => b.tmps[d]?) h
  simp only [Act.put, Array.getElem?_setIfInBounds_self_of_lt hd] at this
  simpa using this

/-- The same operation from another state that holds the same operands. -/
theorem wp_move {o : Oper} {A a : Act} {w : World} {d : Tmp} {X : Value → World → Prop} (he : execOp A.eval o = execOp a.eval o) (hd : o.dst = some d) (hs : d < A.tmps.size)
    (h : o.wp P A w (fun a' w' => ∃ v, a' = A.put o.dst v ∧ X v w') (fun _ _ _ => False)) : o.wp P a w (fun a' w' => ∃ v, a' = a.put o.dst v ∧ X v w') Q := by
  unfold Oper.wp at *
  rw [he] at h
  have key : ∀ v w', (∃ u, A.put o.dst v = A.put o.dst u ∧ X u w') → ∃ u, a.put o.dst v = a.put o.dst u ∧ X u w' := by
    rintro v w' ⟨u, e, x⟩
    rw [hd] at e
    exact ⟨u, by rw [put_inj hs e], x⟩
  generalize (execOp a.eval o).run P w = r at *
  cases r with
  | ok n w' =>
    cases n <;> simp only [Oper.upon] at h ⊢
    case value v => exact key _ _ h
    case skip => exact key _ _ h
    case defer x =>
      obtain ⟨u, e, _⟩ := h
      have := congrArg (fun b : Act => b.defers.length) e
      rw [hd] at this
      simp [Act.put] at this
    case enter f args =>
      refine Calls.mono h fun e w'' he => ?_
      cases e with
      | returned u => exact key _ _ he
      | panicked c => exact he.elim
      | outgrown => obtain ⟨_, _, h⟩ := he; exact h.elim
    case row row args => exact Rows.mono h fun u w'' he => key _ _ he
  | halt x w' =>
    cases x <;> simp only [Oper.upon] at h ⊢

theorem cnt_all {L : Nat → Bool} : ∀ (l : List Nat), (∀ j ∈ l, L j = true) → cnt L l = 0
  | [], _ => rfl
  | j :: l, h => by simp only [cnt]; rw [h j (by simp), cnt_all l fun k hk => h k (by simp [hk])]; simp

theorem puts_append (L : Nat → Bool) (vs : Nat → Value) (i : Nat) : ∀ (l : List Nat) (a : Act), puts ops L vs (l ++ [i]) a = if L i then (puts ops L vs l a).put (dstOf ops i) (vs i) else puts ops L vs l a
  | [], _ => rfl
  | j :: l, a => by simp only [List.cons_append, puts]; exact puts_append L vs i l _

def at_ (listed : Array Bool) (j : Nat) : Bool := listed.getD j false

theorem at_upd {listed : Array Bool} {i : Nat} (hi : i < listed.size) : at_ (listed.setIfInBounds i true) = upd (at_ listed) i true := by
  funext j
  unfold at_ upd
  by_cases e : j = i
  · subst e; simp [hi]
  · simp [e, Array.getElem?_setIfInBounds_ne (fun h => e h.symm)]

theorem mem_ready {listed : Array Bool} {i : Nat} (hz : listed.size = ops.size) : i ∈ Region.ready .any ops listed ↔ i < ops.size ∧ at_ listed i = false ∧ ∃ o, ops[i]? = some o ∧ ∀ e ∈ o.after, Region.binds .any e = true → at_ listed e.on = true := by
  unfold Region.ready at_
  simp only [List.mem_filter, List.mem_range, Bool.and_eq_true, Bool.not_eq_true']
  constructor
  · rintro ⟨h1, h2, h3⟩
    have h1' : i < listed.size := by omega
    refine ⟨h1, by simpa [h1'] using h2, ops[i], by simp [h1], ?_⟩
    intro e he hb
    simp only [Array.getElem?_eq_getElem h1, Option.map_some, Option.getD_some, Array.all_eq_true_iff_forall_mem] at h3
    have := h3 e he
    rw [hb] at this
    simpa using this
  · rintro ⟨h1, h2, o, ho, h3⟩
    have h1' : i < listed.size := by omega
    refine ⟨h1, by simpa [h1'] using h2, ?_⟩
    rw [ho]
    simp only [Option.map_some, Option.getD_some, Array.all_eq_true_iff_forall_mem]
    intro e he
    cases hb : Region.binds .any e
    · rfl
    · simpa using h3 e he hb

theorem any_mem {α : Type} {arr : Array α} {p : α → Bool} : arr.any p = true ↔ ∃ e ∈ arr, p e = true := by
  rw [Array.any_eq_true]
  constructor
  · rintro ⟨i, h, hp⟩; exact ⟨_, Array.getElem_mem h, hp⟩
  · rintro ⟨e, he, hp⟩
    obtain ⟨i, h, rfl⟩ := Array.mem_iff_getElem.1 he
    exact ⟨i, h, hp⟩

def waits (o : Oper) (j : Nat) : Bool := o.after.any fun e => Region.binds .any e && e.on == j

theorem waits_iff {o : Oper} {j : Nat} : waits o j = true ↔ ∃ e ∈ o.after, Region.binds .any e = true ∧ e.on = j := by
  unfold waits
  rw [any_mem]
  simp

structure Ok (ops : Array Oper) (m : Nat) : Prop where
  sel : Region.noSelect ops = true
  guard : ∀ (i : Nat) (o : Oper), ops[i]? = some o → o.guard = none
  order : ∀ (i : Nat) (o : Oper), ops[i]? = some o → ∀ j, waits o j = true → j < i
  apart : Apart ops
  reads : ∀ (i : Nat) (o : Oper), ops[i]? = some o → i < m → ∀ t, Operand.tmp t ∈ o.op.operands → (∀ j, dstOf ops j ≠ some t) ∨ ∃ j, waits o j = true ∧ dstOf ops j = some t
  last : ∀ (i : Nat) (o : Oper), ops[i]? = some o → m ≤ i → ∀ j, j < m → waits o j = true

theorem lt_of_some {i : Nat} {o : Oper} (h : ops[i]? = some o) : i < ops.size := (Array.getElem?_eq_some_iff.1 h).1
theorem lt_of_dst {i : Nat} {d : Tmp} (h : dstOf ops i = some d) : i < ops.size := by
  unfold dstOf at h
  cases e : ops[i]? with
  | none => rw [e] at h; cases h
  | some o => exact lt_of_some e

theorem ok_of {m : Nat} (h : okB ops m = true) : Ok ops m := by
  unfold okB at h
  rw [Bool.and_eq_true, List.all_eq_true] at h
  obtain ⟨h0, h1⟩ := h
  have get : ∀ (i : Nat) (o : Oper), ops[i]? = some o → _ := fun i o ho => by
    have := h1 i (List.mem_range.2 (lt_of_some ho))
    rw [ho] at this
    exact this
  simp only [Bool.and_eq_true] at get
  refine ⟨h0, fun i o ho => ?_, fun i o ho j hj => ?_, ?_, fun i o ho hi t ht => ?_, fun i o ho hi j hj => ?_⟩
  · simpa using (get i o ho).1.1.1
  · have := (get i o ho).1.1.2
    obtain ⟨e, he, hb, rfl⟩ := waits_iff.1 hj
    rw [Array.all_eq_true_iff_forall_mem] at this
    have := this e he
    rw [hb] at this
    simpa using this
  · intro i j d hne hd hd'
    have hi := lt_of_dst hd
    obtain ⟨o, ho⟩ : ∃ o, ops[i]? = some o := ⟨ops[i], by simp [hi]⟩
    have := (get i o ho).1.2
    rw [List.all_eq_true] at this
    have := this j (List.mem_range.2 (lt_of_dst hd'))
    have ed : o.dst = some d := by unfold dstOf at hd; rw [ho] at hd; exact hd
    rw [ed, hd'] at this
    simp at this
    exact hne this.symm
  · have := (get i o ho).2
    rw [if_pos hi, Array.all_eq_true_iff_forall_mem] at this
    have := this _ ht
    simp only [Bool.or_eq_true, List.all_eq_true] at this
    rcases this with h | h
    · left
      intro j hj
      have := h j (List.mem_range.2 (lt_of_dst hj))
      rw [hj] at this
      simp at this
    · right
      rw [any_mem] at h
      obtain ⟨e, he, hb⟩ := h
      rw [Bool.and_eq_true] at hb
      exact ⟨e.on, waits_iff.2 ⟨e, he, hb.1, rfl⟩, by simpa using hb.2⟩
  · have := (get i o ho).2
    rw [if_neg (by omega), List.all_eq_true] at this
    exact this j (List.mem_range.2 hj)

theorem some_ready {m : Nat} (k : Ok ops m) {listed : Array Bool} (hz : listed.size = ops.size) : ∀ (n i : Nat), i < n → i < ops.size → at_ listed i = false → ∃ j, j ∈ Region.ready .any ops listed
  | 0, i, h, _, _ => by omega
  | n + 1, i, h, hi, hl => by
    obtain ⟨o, ho⟩ : ∃ o, ops[i]? = some o := ⟨ops[i], by simp [hi]⟩
    by_cases hall : ∀ e ∈ o.after, Region.binds .any e = true → at_ listed e.on = true
    · exact ⟨i, (mem_ready hz).2 ⟨hi, hl, o, ho, hall⟩⟩
    · have : ∃ e ∈ o.after, Region.binds .any e = true ∧ at_ listed e.on = false := by
        apply Classical.byContradiction
        intro hno
        apply hall
        intro e he hb
        cases hc : at_ listed e.on
        · exact absurd ⟨e, he, hb, hc⟩ hno
        · rfl
      obtain ⟨e, he, hb, hc⟩ := this
      have hlt := k.order i o ho e.on (waits_iff.2 ⟨e, he, hb, rfl⟩)
      exact some_ready k hz n e.on (by omega) (by omega) hc

theorem eval_same {m : Nat} (k : Ok ops m) {L : Nat → Bool} {vs : Nat → Value} {a0 : Act} {i : Nat} {o : Oper} (ho : ops[i]? = some o) (hi : i < m) (hL : ∀ j, waits o j = true → L j = true) :
    ∀ x ∈ o.op.operands, (puts ops (fun _ => true) vs (List.range i) a0).eval x = (puts ops L vs (List.range ops.size) a0).eval x := by
  intro x hx
  cases x with
  | tmp t =>
    rcases k.reads i o ho hi t hx with h | ⟨j, hj, hd⟩
    · rw [eval_puts_none _ _ (fun j _ _ => h j), eval_puts_none _ _ (fun j _ _ => h j)]
    · rw [eval_puts_some k.apart rfl hd _ _ (List.mem_range.2 (k.order i o ho j hj)) List.nodup_range, eval_puts_some k.apart (hL j hj) hd _ _ (List.mem_range.2 (lt_of_dst hd)) List.nodup_range]
  | _ => rfl

/-- The end of the region: its last operation, if there is one that stands apart. -/
def Ends (P : Program) (ops : Array Oper) (Q : Exit → Act → World → Prop) (m : Nat) (a : Act) (w : World) : Prop :=
  match ops[m]? with
  | none => Q .normal a w
  | some o => o.wp P a w (Q .normal) Q

theorem any_of {m : Nat} (k : Ok ops m) (hmn : m ≤ ops.size) (hnm : ops.size ≤ m + 1) {a0 : Act} {W : World} {Φ : Nat → Value → World → Prop} (hst : ∀ i v w w', Kept w w' → Φ i v w → Φ i v w')
    (hsz : ∀ i, i < m → ∃ d, dstOf ops i = some d ∧ d < a0.tmps.size)
    (H : ∀ (i : Nat) (o : Oper), i < m → ops[i]? = some o → ∀ (vs : Nat → Value) (w : World), Kept W w → (∀ j, waits o j = true → Φ j (vs j) w) →
      o.wp P (puts ops (fun _ => true) vs (List.range i) a0) w (fun a' w' => ∃ v, a' = (puts ops (fun _ => true) vs (List.range i) a0).put o.dst v ∧ Kept w w' ∧ Φ i v w') (fun _ _ _ => False))
    (F : ∀ (vs : Nat → Value) (w : World), Kept W w → (∀ j, j < m → Φ j (vs j) w) → Ends P ops Q m (puts ops (fun _ => true) vs (List.range m) a0) w) :
    ∀ (fuel : Nat) (listed : Array Bool) (vs : Nat → Value) (w : World), listed.size = ops.size → cnt (at_ listed) (List.range ops.size) = fuel → (m < ops.size → at_ listed m = false) → Kept W w → (∀ j, j < m → at_ listed j = true → Φ j (vs j) w) →
      wpAny P .any ops Q fuel listed (puts ops (at_ listed) vs (List.range ops.size) a0) w
  | 0, listed, vs, w, hz, hc, hlast, hK, hf => by
    have hall := cnt_zero _ hc
    have hm : m = ops.size := by
      apply Classical.byContradiction
      intro hne
      have h1 := hlast (by omega)
      rw [hall m (List.mem_range.2 (by omega))] at h1
      cases h1
    refine ⟨?_, ?_⟩
    · apply List.eq_nil_iff_forall_not_mem.2
      intro i hi
      obtain ⟨h1, h2, _⟩ := (mem_ready hz).1 hi
      rw [hall i (List.mem_range.2 h1)] at h2
      cases h2
    · have := F vs w hK fun j hj => hf j hj (hall j (List.mem_range.2 (by omega)))
      unfold Ends at this
      rw [hm, show ops[ops.size]? = none from by simp] at this
      rw [puts_congr (L' := fun _ => true) (vs' := vs) _ _ (fun j hj => ⟨hall j hj, rfl⟩)]
      exact this
  | fuel + 1, listed, vs, w, hz, hc, hlast, hK, hf => by
    refine ⟨?_, ?_⟩
    · intro h0
      have : ∃ j, j < ops.size ∧ at_ listed j = false := by
        apply Classical.byContradiction
        intro hno
        have : cnt (at_ listed) (List.range ops.size) = 0 := cnt_all _ fun j hj => by
          cases e : at_ listed j
          · exact absurd ⟨j, List.mem_range.1 hj, e⟩ hno
          · rfl
        omega
      obtain ⟨j, h1, h2⟩ := this
      obtain ⟨i, hi⟩ := some_ready k hz (j + 1) j (by omega) h1 h2
      rw [h0] at hi
      cases hi
    · intro i hi
      obtain ⟨h1, h2, o, ho, h3⟩ := (mem_ready hz).1 hi
      have hw : ∀ j, waits o j = true → at_ listed j = true := fun j hj => by
        obtain ⟨e, he, hb, rfl⟩ := waits_iff.1 hj
        exact h3 e he hb
      have hin : i ∈ List.range ops.size := List.mem_range.2 h1
      have hcu := cnt_upd h2 _ hin List.nodup_range
      have hau := at_upd (listed := listed) (i := i) (by omega)
      unfold wpOp
      simp only [ho, Region.wanted, k.guard i o ho, if_true]
      left
      by_cases him : i < m
      · obtain ⟨d, hd, hds⟩ := hsz i him
        have hd' : o.dst = some d := by unfold dstOf at hd; rw [ho] at hd; exact hd
        have h := H i o him ho vs w hK fun j hj => hf j (by have := k.order i o ho j hj; omega) (hw j hj)
        have h' := wp_move (Q := Q) (execOp_congr o (fun cs b => Region.noSelect_spec k.sel i o cs b ho) (eval_same k ho him hw)) hd' (by rw [puts_size]; exact hds) h
        refine Oper.wp_mono ?_ h'
        rintro a' w' ⟨v, rfl, hk, hp⟩
        have hrec := any_of k hmn hnm hst hsz H F fuel (listed.setIfInBounds i true) (upd vs i v) w' (by simp [hz]) (by rw [hau]; omega) (fun hlt => by rw [hau, upd_ne _ _ (by omega)]; exact hlast hlt) (hK.trans hk) (fun j hj hl => by
          by_cases e : j = i
          · subst e; rw [upd_same]; exact hp
          · rw [upd_ne _ _ e]
            rw [hau, upd_ne _ _ e] at hl
            exact hst _ _ _ _ hk (hf j hj hl))
        rw [hau, puts_upd k.apart h2 _ _ hin List.nodup_range] at hrec
        have : dstOf ops i = o.dst := by unfold dstOf; rw [ho]; rfl
        rw [this] at hrec
        exact hrec
      · have hme : i = m := by omega
        subst hme
        have hall : ∀ j, j < i → at_ listed j = true := fun j hj => hw j (k.last i o ho (by omega) j hj)
        have hF := F vs w hK fun j hj => hf j hj (hall j hj)
        unfold Ends at hF
        simp only [ho] at hF
        have hn : ops.size = i + 1 := by omega
        have hp : puts ops (at_ listed) vs (List.range ops.size) a0 = puts ops (fun _ => true) vs (List.range i) a0 := by
          rw [hn, List.range_succ, puts_append, h2]
          exact puts_congr _ _ fun j hj => ⟨hall j (List.mem_range.1 hj), rfl⟩
        rw [hp]
        refine Oper.wp_mono ?_ hF
        intro a' w' hq
        have hall' : ∀ j ∈ List.range ops.size, at_ (listed.setIfInBounds i true) j = true := fun j hj => by
          rw [hau]
          by_cases e : j = i
          · rw [e, upd_same]
          · rw [upd_ne _ _ e]
            exact hall j (by have := List.mem_range.1 hj; omega)
        have hz0 := cnt_all _ hall'
        rw [hau] at hz0
        have : fuel = 0 := by omega
        subst this
        refine ⟨?_, hq⟩
        apply List.eq_nil_iff_forall_not_mem.2
        intro q hqr
        obtain ⟨g1, g2, _⟩ := (mem_ready (by simp [hz])).1 hqr
        rw [hall' q (List.mem_range.2 g1)] at g2
        cases g2

/-- The region by its facts. -/
theorem region {id : Nat} {l : List Oper} {a0 : Act} {w0 : World} (m : Nat) (Φ : Nat → Value → World → Prop) (hm : P.follows .mixedOrders = true) (hok : okB l.toArray m = true) (hmn : (decide (m ≤ l.toArray.size) && decide (l.toArray.size ≤ m + 1)) = true)
    (hst : ∀ i v w w', Kept w w' → Φ i v w → Φ i v w')
    (hsz : ∀ i, i < m → ∃ d, dstOf l.toArray i = some d ∧ d < a0.tmps.size)
    (H : ∀ (i : Nat) (o : Oper), i < m → l.toArray[i]? = some o → ∀ (vs : Nat → Value) (w : World), Kept (w0.drewN 1) w → (∀ j, waits o j = true → Φ j (vs j) w) →
      o.wp P (puts l.toArray (fun _ => true) vs (List.range i) a0) w (fun a' w' => ∃ v, a' = (puts l.toArray (fun _ => true) vs (List.range i) a0).put o.dst v ∧ Kept w w' ∧ Φ i v w') (fun _ _ _ => False))
    (F : ∀ (vs : Nat → Value) (w : World), Kept (w0.drewN 1) w → (∀ j, j < m → Φ j (vs j) w) → Ends P l.toArray Q m (puts l.toArray (fun _ => true) vs (List.range m) a0) w) : (Code.region id l.toArray true).wp P Q a0 w0 := by
  rw [Bool.and_eq_true, decide_eq_true_iff, decide_eq_true_iff] at hmn
  refine wp_region_any hm ?_
  have h0 : at_ (Array.replicate l.toArray.size false) = fun _ => false := by
    funext j
    unfold at_
    simp only [Array.getD_eq_getD_getElem?, Array.getElem?_replicate]
    split <;> rfl
  have hp : ∀ (vs : Nat → Value) (r : List Nat), puts l.toArray (fun _ => false) vs r a0 = a0 := fun vs r => by
    induction r with
    | nil => rfl
    | cons j r ih => simpa only [puts, Bool.false_eq_true, if_false] using ih
  have hc : ∀ r : List Nat, cnt (fun _ => false) r = r.length := fun r => by
    induction r with
    | nil => rfl
    | cons j r ih => simp only [cnt, ih, List.length_cons]; simp; omega
  have := any_of (ok_of hok) hmn.1 hmn.2 hst hsz H F l.toArray.size (Array.replicate l.toArray.size false) (fun _ => undef) (w0.drewN 1) (by simp) (by rw [h0, hc]; simp) (fun _ => by rw [h0]) (Kept.refl _) (fun j _ hl => by rw [h0] at hl; cases hl)
  rw [h0, hp] at this
  exact this

/-- Does no operation of the region put this one? -/
def freeB (ops : Array Oper) (t : Tmp) : Bool := (List.range ops.size).all fun j => dstOf ops j != some t

theorem free_of {t : Tmp} (h : freeB ops t = true) (j : Nat) : dstOf ops j ≠ some t := by
  intro hj
  unfold freeB at h
  rw [List.all_eq_true] at h
  have := h j (List.mem_range.2 (lt_of_dst hj))
  rw [hj] at this
  simp at this

theorem eval_put_self {a : Act} {d : Tmp} {v : Value} (h : d < a.tmps.size) : (a.put (some d) v).eval (.tmp d) = v := by
  simp [Act.eval, Act.put, h]

/-- The values put one behind another, from the number 'k' on. -/
def putsL (vs : Nat → Value) : List Tmp → Nat → Act → Act
  | [], _, a => a
  | d :: ds, k, a => putsL vs ds (k + 1) (a.put (some d) (vs k))

theorem putsL_eq (vs : Nat → Value) : ∀ (ds : List Tmp) (k : Nat) (a : Act), (∀ j, j < ds.length → dstOf ops (k + j) = ds[j]?) → puts ops (fun _ => true) vs (List.range' k ds.length) a = putsL vs ds k a
  | [], _, _, _ => rfl
  | d :: ds, k, a, h => by
    simp only [List.length_cons, List.range'_succ, puts, putsL, if_true]
    have h0 := h 0 (by simp)
    simp at h0
    rw [h0]
    refine putsL_eq vs ds (k + 1) _ fun j hj => ?_
    have := h (j + 1) (by simpa using hj)
    rw [show k + (j + 1) = k + 1 + j from by omega] at this
    simpa using this

/-- The end, kept shut. -/
structure Ended (P : Program) (o : Option Oper) (Q : Exit → Act → World → Prop) (a : Act) (w : World) : Prop where
  out : match o with | none => Q .normal a w | some o => o.wp P a w (Q .normal) Q

/-- The region by its facts, each operation from whatever state holds what it reads. -/
theorem regionG {id : Nat} {l : List Oper} {a0 : Act} {w0 : World} (ds : List Tmp) (Φ : Nat → Value → World → Prop) (hm : P.follows .mixedOrders = true) (hok : okB l.toArray ds.length = true) (hmn : (decide (ds.length ≤ l.toArray.size) && decide (l.toArray.size ≤ ds.length + 1)) = true)
    (hds : ((List.range ds.length).all fun j => dstOf l.toArray j == ds[j]?) = true)
    (hst : ∀ i v w w', Kept w w' → Φ i v w → Φ i v w')
    (hsz : ∀ d ∈ ds, d < a0.tmps.size)
    (H : ∀ (i : Nat) (o : Oper), i < ds.length → l.toArray[i]? = some o → ∀ (b : Act) (w : World), Kept (w0.drewN 1) w → (∀ t, freeB l.toArray t = true → b.eval (.tmp t) = a0.eval (.tmp t)) → (∀ j d, (waits o j && dstOf l.toArray j == some d) = true → Φ j (b.eval (.tmp d)) w) →
      o.wp P b w (fun a' w' => ∃ v, a' = b.put o.dst v ∧ Kept w w' ∧ Φ i v w') (fun _ _ _ => False))
    (F : ∀ (vs : Nat → Value) (w : World), Kept (w0.drewN 1) w → (∀ j, j < ds.length → Φ j (vs j) w) → Ended P l.toArray[ds.length]? Q (putsL vs ds 0 a0) w) : (Code.region id l.toArray true).wp P Q a0 w0 := by
  have k := ok_of hok
  have hmn' := hmn
  rw [Bool.and_eq_true, decide_eq_true_iff, decide_eq_true_iff] at hmn'
  have hd' : ∀ j, j < ds.length → dstOf l.toArray j = ds[j]? := fun j hj => by
    rw [List.all_eq_true] at hds
    simpa using hds j (List.mem_range.2 hj)
  have hsz' : ∀ i, i < ds.length → ∃ d, dstOf l.toArray i = some d ∧ d < a0.tmps.size := fun i hi => ⟨ds[i], by rw [hd' i hi]; simp, hsz _ (List.getElem_mem _)⟩
  refine region ds.length Φ hm hok hmn hst hsz' (fun i o hi ho vs w hK hd => ?_) (fun vs w hK hf => ?_)
  · refine H i o hi ho _ w hK (fun t ht => eval_puts_none _ _ fun j _ _ => free_of ht j) fun j d hj => ?_
    rw [Bool.and_eq_true, beq_iff_eq] at hj
    have hji := k.order i o ho j hj.1
    obtain ⟨d', hd', hs⟩ := hsz' j (by omega)
    rw [hj.2] at hd'
    cases hd'
    rw [eval_puts_some k.apart rfl hj.2 _ _ (List.mem_range.2 hji) List.nodup_range, eval_put_self hs]
    exact hd j hj.1
  · have h := (F vs w hK hf).out
    rw [← putsL_eq (ops := l.toArray) vs ds 0 a0 (fun j hj => by rw [Nat.zero_add]; exact hd' j hj), ← List.range_eq_range'] at h
    exact h
end
end Go.Proofs.Ytjheiaegpoppaaa.Fact

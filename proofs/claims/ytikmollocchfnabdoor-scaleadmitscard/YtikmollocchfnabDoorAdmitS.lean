/- Admit, in the document: the whole. -/
import Derived.Test.YtikmollocchfnabDoorAdmitR
namespace Go.Proofs.YtikmollocchfnabDoor
open Go.RowKit

/-- Doubling till the scale is met or the bound is passed. -/
theorem double_end (o s t M : Nat) (ht : t ≤ s) (h : o = 0 ∨ t = s ∨ M < o * 2 ^ t) : (o * 2 ^ t ≤ M → o * 2 ^ t = o * 2 ^ s) ∧ (M < o * 2 ^ t ↔ M < o * 2 ^ s) := by
  have hle : o * 2 ^ t ≤ o * 2 ^ s := Nat.mul_le_mul_left _ (Nat.pow_le_pow_right (by omega) ht)
  rcases h with h | h | h
  · subst h; simp
  · subst h; simp
  · exact ⟨fun q => by omega, ⟨fun _ => by omega, fun _ => h⟩⟩

/-- The state of the document's loop behind k labels. -/
structure RLoop (w : World) (ds : List Nat) (e : Int) (k : Nat) (v : Value) (wr : World) : Prop where
  own : wr.ownsRow w.heap.size 2 1 v k (zvals ((ds.take k).map fun x => wnum x e))
  kept : Kept w wr

theorem RLoop.step {w : World} {ds : List Nat} {e : Int} {k : Nat} {v v' : Value} {wr w1 : World} {o : Obj} (h : RLoop w ds e k v wr) (hk : k < ds.length)
    (own : w1.ownsRow w.heap.size 2 1 v' (k + 1) (zvals ((ds.take k).map fun x => wnum x e) ++ [.int .i64 (wnum (ds.getD k 0) e)])) (grow : (wr.alloc o).grownBy w1 v.ownBlock) : RLoop w ds e (k + 1) v' w1 := by
  refine ⟨?_, ?_⟩
  · have e1 : (ds.take (k + 1)).map (fun x => wnum x e) = (ds.take k).map (fun x => wnum x e) ++ [wnum (ds.getD k 0) e] := by
      rw [List.take_succ_eq_append_getElem hk, List.map_append]
      have : ds.getD k 0 = ds[k] := by simp [List.getD, hk]
      rw [this]; rfl
    rw [e1, ← zvals_snoc]
    exact own
  · have hk' := h.kept.alloc o
    exact Below.grown hk' grow hk'.size (fun j hj => (h.own.lt j hj).1)

theorem cell_new2 (w : World) (T : TypeId) (u : Value) : ∀ j u', ([u] : List Value)[j]? = some u' → (w.alloc (Obj.cells #[u] T)).cell? ((⟨w.heap.size, 0, none⟩ : Addr).add j) = some u' := cell_new1 w T u

set_option maxRecDepth 100000 in
set_option maxHeartbeats 4000000 in
theorem admitR_calls (ao : Option Addr) (n cap : Nat) (ds : List Nat) (most : Int) (w : World) (h : Row w ao n cap ds) (hw : ∀ i, ds.getD i 0 < 18446744073709551616) (hn8 : n * 8 ≤ 140737488355328)
    (ns : List Int) (e c a : Int) (hA : Hid (admitOf ds most = (ns, e, c, a))) :
    Calls Tryd.prog 10 #[.slice ao n cap, .int .i64 most] w fun v w' => (∃ ao' cap', v = .returned (.tuple #[.slice ao' ns.length cap', .int .i64 e, .int .i64 c, .int .i64 a]) ∧ ZRow w' ao' ns.length cap' ns) ∧ Kept w w' := by
  have hl1 : n ≤ ds.length := Nat.le_of_eq h.len
  have hl2 : ds.length ≤ n := Nat.le_of_eq h.len.symm
  have hr := h.room
  have hm := h.most
  unfold maxLen at hm
  have znil : ∀ w : World, ZRow w none 0 0 [] := fun w => ⟨rfl, Nat.le_refl _, by unfold maxLen; omega, fun h => by omega⟩
  have Z := hid_of znil
  clear znil
  have hnot : ∀ (x : Bool) (w : World), (Op.unary .not (.bool x)).run Tryd.prog w = .ok (.bool (!x)) w := fun _ _ => rfl
  by_cases hr1 : most < 1 ∨ 9007199254740992 < most
  · obtain ⟨rfl, rfl, rfl, rfl⟩ : ns = [] ∧ e = 0 ∧ c = 1 ∧ a = 0 := by
      have := hA.out
      unfold admitOf at this
      rw [if_pos hr1] at this
      simp only [Prod.mk.injEq] at this
      exact ⟨this.1.symm, this.2.1.symm, this.2.2.1.symm, this.2.2.2.symm⟩
    clear hA
    rcases hr1 with g | g
    · go_enter Tryd.func10, Tryd.ntmps10
      go_wp2
      refine bodyPost_ret (v := .tuple #[.slice none 0 0, .int .i64 0, .int .i64 1, .int .i64 0]) (by simp [results, Tryd.results10, go_sem]) rfl ⟨⟨none, 0, rfl, Z.out _⟩, Kept.refl _⟩
    · have g' : ¬ most < 1 := by omega
      go_enter Tryd.func10, Tryd.ntmps10
      go_wp2
      refine bodyPost_ret (v := .tuple #[.slice none 0 0, .int .i64 0, .int .i64 1, .int .i64 0]) (by simp [results, Tryd.results10, go_sem]) rfl ⟨⟨none, 0, rfl, Z.out _⟩, Kept.refl _⟩
  have m1 : 1 ≤ most := by omega
  have m2 : most ≤ 9007199254740992 := by omega
  obtain ⟨E, hE⟩ : ∃ E, (comTo ds ds.length).2 = E := ⟨_, rfl⟩
  have hEb := comTo_bd ds ds.length
  have hEl := comTo_least ds ds.length
  rw [hE] at hEb hEl
  obtain ⟨b1, b2⟩ := hEb
  have HEL := hid_of hEl
  have HEE := hid_of hE
  have hA1 := fun (hu : (unfitOf ds).1 = 0) => admit_wide ds most (by omega) (by omega) hu
  have hA2 := fun (hu : (unfitOf ds).1 = 0) => admit_fits ds most (by omega) (by omega) hu
  rw [hE] at hA1 hA2
  have HA1 := hid_of hA1
  have HA2 := hid_of hA2
  have HU0 : Hid (∀ j, j < ds.length → (∀ i, i < j → wrongAt ds i = false) → fcls (ds.getD j 0) ≠ 0 → ns = [] ∧ e = 0 ∧ c = (if fcls (ds.getD j 0) = 2 then 20 else 21) ∧ a = (j : Int)) := fun j hj hb hne => by
    have hun : unfitOf ds = (if fcls (ds.getD j 0) = 2 then 20 else 21, (j : Int)) := by
      unfold unfitOf
      rw [firstOf_some (j := j) hj (decide_eq_true hne) hb]
    have h2 := hA.out
    unfold admitOf at h2
    rw [if_neg hr1, hun, if_pos (by show (if fcls (ds.getD j 0) = 2 then (20 : Int) else 21) ≠ 0; split <;> decide)] at h2
    simp only [Prod.mk.injEq] at h2
    exact ⟨h2.1.symm, h2.2.1.symm, h2.2.2.1.symm, h2.2.2.2.symm⟩
  have HU1 : Hid ((∀ i, i < ds.length → wrongAt ds i = false) → (unfitOf ds).1 = 0) := fun hb => by
    unfold unfitOf
    rw [firstOf_none hb]
  clear hEl hE hA1 hA2 hr1
  obtain ⟨i0, hi, hz0, hz1, hz2⟩ := info_parts infoZ0
  have q1 : ¬ most < 1 := by omega
  have q2 : ¬ 9007199254740992 < most := by omega
  go_enter Tryd.func10, Tryd.ntmps10
  go_wp2_with fail
  go_loop [8] (fun i => ∃ (k : Nat), k ≤ n ∧ i = .int .i64 k ∧ ∀ j, j < k → wrongAt ds j = false) (fun i => n - (intOf i).toNat)
  case atStart => exact ⟨0, by omega, rfl, fun j hj => by omega⟩
  case round =>
    obtain ⟨k, hk, rfl, R⟩ := hrel
    have HR := hid_of R
    clear R
    by_cases hgo : (k : Int) < (n : Int)
    · obtain ⟨b, off, rfl, hc⟩ := h.cell (by omega)
      have hcx := hc k (by omega)
      have wx := hw k
      have C := hid_of (fun w => class_calls (ds.getD k 0) wx w)
      have stop := hid_of (HU0.out k (by omega) HR.out)
      have go : Hid (fcls (ds.getD k 0) = 0 → ∀ j, j < k + 1 → wrongAt ds j = false) := fun hz j hj => by
        by_cases e : j = k
        · subst e; exact decide_eq_false (by simpa using hz)
        · exact HR.out j (by omega)
      clear hc
      generalize ds.getD k 0 = x at hcx wx stop go C
      rcases fcls_cases x with f | f | f
      · obtain ⟨s0, s1, s2, s3⟩ := stop.out (by rw [f]; decide)
        rw [if_pos f] at s2
        subst s0 s1 s2 s3
        rw [f] at C
        clear stop go f HU0 HU1 HA1 HA2
        go_wp2_with (go_at_call 21; refine (C.out _).mono ?_; rintro e w' ⟨rfl, rfl⟩)
        refine bodyPost_ret (v := .tuple #[.slice none 0 0, .int .i64 0, .int .i64 20, .int .i64 (k : Int)]) (by simp [results, Tryd.results10, go_sem]) rfl ⟨⟨none, 0, rfl, Z.out _⟩, Kept.refl _⟩
      · obtain ⟨s0, s1, s2, s3⟩ := stop.out (by rw [f]; decide)
        rw [if_neg (by rw [f]; decide)] at s2
        subst s0 s1 s2 s3
        rw [f] at C
        clear stop go f HU0 HU1 HA1 HA2
        go_wp2_with (go_at_call 21; refine (C.out _).mono ?_; rintro e w' ⟨rfl, rfl⟩)
        refine bodyPost_ret (v := .tuple #[.slice none 0 0, .int .i64 0, .int .i64 21, .int .i64 (k : Int)]) (by simp [results, Tryd.results10, go_sem]) rfl ⟨⟨none, 0, rfl, Z.out _⟩, Kept.refl _⟩
      · have G := hid_of (go.out f)
        rw [f] at C
        clear stop go f
        go_wp2_with (go_at_call 21; refine (C.out _).mono ?_; rintro e w' ⟨rfl, rfl⟩)
        go_round
        case rel => exact ⟨k + 1, by omega, by go_num, G.out⟩
        case measure => simp [intOf]; omega
    · obtain rfl : k = n := by omega
      have hu0 := HU1.out (fun i hi => HR.out i (by omega))
      have HB1 := hid_of (HA1.out hu0)
      have HB2 := hid_of (HA2.out hu0)
      clear HU0 HU1 HA1 HA2 hu0 HR
      go_wp2_with fail
      go_loop [9, 10, 11] (fun l f i => ∃ (k' : Nat), k' ≤ k ∧ i = .int .i64 k' ∧ l = .int .i64 (comTo ds k').2 ∧ f = .bool (comTo ds k').1) (fun _ _ i => k - (intOf i).toNat)
      case atStart => exact ⟨0, by omega, rfl, rfl, rfl⟩
      case round =>
        obtain ⟨j, hj, rfl, rfl, rfl⟩ := hrel
        by_cases hgo2 : (j : Int) < (k : Int)
        · obtain ⟨b, off, rfl, hc⟩ := h.cell (by omega)
          have hcx := hc j (by omega)
          have wx := hw j
          have hs : comTo ds (j + 1) = if podd (ds.getD j 0) ≠ 0 ∧ ((comTo ds j).1 = false ∨ pexp (ds.getD j 0) < (comTo ds j).2) then (true, pexp (ds.getD j 0)) else comTo ds j := rfl
          have HS := hid_of hs
          have C := hid_of (fun (w : World) => partsR_calls (ds.getD j 0) wx w)
          clear hc hs
          generalize ds.getD j 0 = x at hcx wx HS C
          obtain ⟨f, l, hfl⟩ : ∃ f l, comTo ds j = (f, l) := ⟨_, _, rfl⟩
          rw [hfl] at HS ⊢
          clear hfl
          simp only at HS ⊢
          generalize podd x = o at HS C
          generalize pexp x = p at HS C
          by_cases ho : o = 0
          · have g1 : ((o : Int) != 0) = false := by simp [ho]
            have EQ : Hid (comTo ds (j + 1) = (f, l)) := by rw [HS.out, if_neg (fun t => t.1 ho)]; exact rfl
            clear HS ho
            go_wp2_with (go_at_call 22; refine (C.out _).mono ?_; rintro e w' ⟨rfl, rfl⟩)
            go_round
            case rel => exact ⟨j + 1, by omega, by go_num, by rw [EQ.out], by rw [EQ.out]⟩
            case measure => simp [intOf]; omega
          · have g1 : ((o : Int) != 0) = true := by simp [ho]
            cases f
            · have EQ : Hid (comTo ds (j + 1) = (true, p)) := by rw [HS.out, if_pos ⟨ho, .inl rfl⟩]; exact rfl
              clear HS ho
              go_wp2_with (go_at_call 22; refine (C.out _).mono ?_; rintro e w' ⟨rfl, rfl⟩)
              go_round
              case rel => exact ⟨j + 1, by omega, by go_num, by rw [EQ.out], by rw [EQ.out]⟩
              case measure => simp [intOf]; omega
            · by_cases hp : p < l
              · have EQ : Hid (comTo ds (j + 1) = (true, p)) := by rw [HS.out, if_pos ⟨ho, .inr hp⟩]; exact rfl
                clear HS ho
                go_wp2_with (go_at_call 22; refine (C.out _).mono ?_; rintro e w' ⟨rfl, rfl⟩)
                go_round
                case rel => exact ⟨j + 1, by omega, by go_num, by rw [EQ.out], by rw [EQ.out]⟩
                case measure => simp [intOf]; omega
              · have EQ : Hid (comTo ds (j + 1) = (true, l)) := by rw [HS.out, if_neg (fun t => by rcases t.2 with q | q; cases q; exact hp q)]; exact rfl
                clear HS ho
                go_wp2_with (go_at_call 22; refine (C.out _).mono ?_; rintro e w' ⟨rfl, rfl⟩)
                go_round
                case rel => exact ⟨j + 1, by omega, by go_num, by rw [EQ.out], by rw [EQ.out]⟩
                case measure => simp [intOf]; omega
        · obtain rfl : j = k := by omega
          obtain rfl : j = ds.length := by omega
          rw [HEE.out]
          generalize (comTo ds ds.length).1 = fnd
          go_wp2_with fail
          go_loopw [15, 16] (fun v i wr => ∃ k : Nat, k ≤ ds.length ∧ i = .int .i64 k ∧ RLoop w ds E k v wr ∧ ∀ j, j < k → wideAt ds E most j = false) (fun _ i _ => ds.length - (intOf i).toNat)
          case atStart => exact ⟨0, by omega, rfl, ⟨World.ownsRow_nil _ _ _ _, Kept.refl _⟩, fun j hj => by omega⟩
          case round =>
            obtain ⟨k, hk3, rfl, R, hno⟩ := hrel
            have HNO := hid_of hno
            clear hno
            by_cases hgo3 : (k : Int) < (ds.length : Int)
            · obtain ⟨b, off, rfl, hc⟩ := h.cell (by omega)
              have KX := R.kept
              have hcx := KX.cell (hc k (by omega))
              have wx := hw k
              have C := hid_of (fun (w : World) => partsR_calls (ds.getD k 0) wx w)
              have hle := HEL.out k (by omega)
              have hpb := pexp_bd (ds.getD k 0)
              have hod : podd (ds.getD k 0) < 9007199254740992 := by
                rcases part_facts (ds.getD k 0) with ⟨_, t, _⟩ | ⟨_, _, t, _⟩
                · omega
                · exact t
              have hwm : wmag (ds.getD k 0) E = podd (ds.getD k 0) * 2 ^ (pexp (ds.getD k 0) - E).toNat := rfl
              have hwn : wnum (ds.getD k 0) E = if fneg (ds.getD k 0) = true then -(wmag (ds.getD k 0) E : Int) else (wmag (ds.getD k 0) E : Int) := rfl
              have hwa : wideAt ds E most k = decide (most < (wmag (ds.getD k 0) E : Int)) := rfl
              have ST := hid_of (fun (v' : Value) (w1 : World) (o : Obj) => RLoop.step (v' := v') (w1 := w1) (o := o) R (by omega))
              have own := R.own
              have HWN := hid_of hwn
              have HWA := hid_of hwa
              rw [hwm] at HWN HWA
              clear hwm hwn hwa hc
              generalize wnum (ds.getD k 0) E = wv at HWN ST
              generalize fneg (ds.getD k 0) = sg at HWN C
              generalize podd (ds.getD k 0) = o at C hle hod HWN HWA
              generalize pexp (ds.getD k 0) = p at C hle hpb HWN HWA
              generalize ds.getD k 0 = x at hcx C
              obtain ⟨p1, p2⟩ := hpb
              obtain ⟨s, hs⟩ : ∃ s : Nat, (p - E).toNat = s := ⟨_, rfl⟩
              rw [hs] at HWN HWA
              have hse : o ≠ 0 → p - E = (s : Int) := fun t => by have := (hle t).2; omega
              have HSE := hid_of hse
              have hs21 : s ≤ 2200 := by omega
              obtain ⟨M, hM⟩ : ∃ M : Nat, most = (M : Int) := ⟨most.toNat, by omega⟩
              subst hM
              clear hle hs hse R
              go_upto_block 6 with (go_at_call 22; refine (C.out _).mono ?_; rintro e w' ⟨rfl, rfl⟩)
              go_cut [17, 18] (fun y z wx => ∃ t : Nat, t ≤ s ∧ (o = 0 ∨ t = s ∨ M < o * 2 ^ t) ∧ o * 2 ^ t ≤ 18014398509481984 ∧ y = .int .u64 ((o * 2 ^ t : Nat) : Int) ∧ wx = wr)
              case first =>
                go_wp2_with fail
                go_loop [17, 18] (fun y z => ∃ t : Nat, t ≤ s ∧ o * 2 ^ t ≤ 18014398509481984 ∧ y = .int .u64 ((o * 2 ^ t : Nat) : Int) ∧ z = .int .i64 (p - (t : Int))) (fun _ z => (intOf z - E).toNat)
                case atStart => exact ⟨0, by omega, by simp; omega, by simp, by simp⟩
                case round =>
                  obtain ⟨t, ht, hb, rfl, rfl⟩ := hrel
                  have hsu : o * 2 ^ (t + 1) = o * 2 ^ t * 2 := by rw [Nat.pow_succ, Nat.mul_assoc]
                  have HSU := hid_of hsu
                  have hz : o * 2 ^ t = 0 ↔ o = 0 := by
                    have := Nat.two_pow_pos t
                    constructor
                    · intro q; rcases Nat.mul_eq_zero.1 q with q | q; exact q; omega
                    · intro q; rw [q, Nat.zero_mul]
                  have HZ := hid_of hz
                  clear hsu hz
                  obtain ⟨Y, hY⟩ : ∃ Y, o * 2 ^ t = Y := ⟨_, rfl⟩
                  rw [hY] at hb HSU HZ ⊢
                  have HY := hid_of hY
                  clear hY
                  by_cases c0 : Y = 0
                  · have g0 : ((Y : Int) != 0) = false := by simp [c0]
                    have ho := HZ.out.1 c0
                    have HO := hid_of ho
                    clear c0 ho
                    go_wp2
                    go_meet
                    case rel => exact ⟨t, ht, .inl HO.out, by rw [HY.out]; exact hb, by rw [HY.out], rfl⟩
                  · have g0 : ((Y : Int) != 0) = true := by simp [c0]
                    have ho : o ≠ 0 := fun q => c0 (HZ.out.2 q)
                    have hps := HSE.out ho
                    have HPS := hid_of hps
                    clear c0 ho hps
                    by_cases c1 : E < p - (t : Int)
                    · by_cases c2 : (Y : Int) ≤ (M : Int)
                      · go_wp2
                        go_round
                        case rel => exact ⟨t + 1, by have := HPS.out; omega, by rw [HSU.out]; omega, by rw [HSU.out]; go_num, by go_num⟩
                        case measure => simp [intOf]; omega
                      · go_wp2
                        go_meet
                        case rel => exact ⟨t, ht, .inr (.inr (by rw [HY.out]; omega)), by rw [HY.out]; exact hb, by rw [HY.out], rfl⟩
                    · go_wp2
                      go_meet
                      case rel => exact ⟨t, ht, .inr (.inl (by have := HPS.out; omega)), by rw [HY.out]; exact hb, by rw [HY.out], rfl⟩
              case rest =>
                obtain ⟨t, ht, hex, hb, rfl, hwq⟩ := hcut
                replace hwq := hwq.symm
                subst hwq
                obtain ⟨de1, de2⟩ := double_end o s t M ht hex
                obtain ⟨Y, hY⟩ : ∃ Y, o * 2 ^ t = Y := ⟨_, rfl⟩
                rw [hY] at de1 de2 hb ⊢
                clear hY hex
                by_cases hgt : (M : Int) < (Y : Int)
                · have hw1 : wideAt ds E (M : Int) k = true := by rw [HWA.out]; exact decide_eq_true (by have := de2.1 (by omega); omega)
                  obtain ⟨rfl, rfl, rfl, rfl⟩ : ns = [] ∧ e = 0 ∧ c = 22 ∧ a = (k : Int) := by
                    have h1 := HB1.out k (firstOf_some (by omega) hw1 HNO.out)
                    rw [h1] at hA
                    have h2 := hA.out
                    simp only [Prod.mk.injEq] at h2
                    exact ⟨h2.1.symm, h2.2.1.symm, h2.2.2.1.symm, h2.2.2.2.symm⟩
                  clear hw1 de1 de2 HWA HWN hA HB1 HB2 ST own
                  go_wp2
                  refine bodyPost_ret (v := .tuple #[.slice none 0 0, .int .i64 0, .int .i64 22, .int .i64 (k : Int)]) (by simp [results, Tryd.results10, go_sem]) rfl ⟨⟨none, 0, rfl, Z.out _⟩, KX⟩
                · have hw0 : wideAt ds E (M : Int) k = false := by rw [HWA.out]; exact decide_eq_false (fun q => hgt (by have := de2.2 (by omega); omega))
                  have hYe := de1 (by omega)
                  have NN : Hid (∀ j, j < k + 1 → wideAt ds E (M : Int) j = false) := fun j hj => by
                    by_cases q : j = k
                    · subst q; exact hw0
                    · exact HNO.out j (by omega)
                  rw [← hYe] at HWN
                  have hY53 : Y ≤ 9007199254740992 := by omega
                  clear hw0 de1 de2 HWA hYe
                  cases sg
                  · have hwv := HWN.out
                    rw [if_neg (by simp)] at hwv
                    subst hwv
                    clear HWN
                    go_wp2_with (at_builtin; refine wpList_append_own _ rfl _ _ 24 rfl w.heap.size 2 i0 (.int .i64 0) 1 8 Tryd.underlying24 hi hz0 hz1 hz2 rfl (by decide) _ _ _ rfl (own.alloc _) ⟨wr.heap.size, 0, none⟩ 1 1 [.int .i64 (Y : Int)] rfl rfl (cell_new1 _ _ _) (by intro u hu; simp at hu; subst hu; rfl) (by unfold maxLen; omega) (by omega) (by simp; exact Nat.le_succ_of_le KX.size) ?_)
                    intro v' w1 hown hgrow _
                    first | rw [← List.map_take] at hown | skip
                    have STT := hid_of (ST.out v' w1 _ hown hgrow)
                    go_wp2_with fail
                    go_roundw
                    case rel => exact ⟨k + 1, by omega, by go_num, STT.out, NN.out⟩
                    case measure => simp [intOf]; omega
                  · have hwv := HWN.out
                    rw [if_pos rfl] at hwv
                    subst hwv
                    clear HWN
                    go_wp2_with (at_builtin; refine wpList_append_own _ rfl _ _ 24 rfl w.heap.size 2 i0 (.int .i64 0) 1 8 Tryd.underlying24 hi hz0 hz1 hz2 rfl (by decide) _ _ _ rfl (own.alloc _) ⟨wr.heap.size, 0, none⟩ 1 1 [.int .i64 (-(Y : Int))] rfl rfl (cell_new1 _ _ _) (by intro u hu; simp at hu; subst hu; rfl) (by unfold maxLen; omega) (by omega) (by simp; exact Nat.le_succ_of_le KX.size) ?_)
                    intro v' w1 hown hgrow _
                    first | rw [← List.map_take] at hown | skip
                    have STT := hid_of (ST.out v' w1 _ hown hgrow)
                    go_wp2_with fail
                    go_roundw
                    case rel => exact ⟨k + 1, by omega, by go_num, STT.out, NN.out⟩
                    case measure => simp [intOf]; omega
            · obtain rfl : k = ds.length := by omega
              have hnone : firstOf (wideAt ds E most) ds.length = none := firstOf_none (fun i hi => HNO.out i hi)
              obtain ⟨rfl, rfl, rfl, rfl⟩ : ns = (ds.map fun x => wnum x E) ∧ e = E ∧ c = 0 ∧ a = 0 := by
                have h1 := HB2.out hnone
                rw [h1] at hA
                have h2 := hA.out
                simp only [Prod.mk.injEq] at h2
                exact ⟨h2.1.symm, h2.2.1.symm, h2.2.2.1.symm, h2.2.2.2.symm⟩
              have own := R.own
              have KX := R.kept
              obtain ⟨so, cp, rfl⟩ := owns_slice1 own
              rw [List.take_length] at own
              have hlen : (ds.map fun x => wnum x e).length = ds.length := by simp
              have row : ZRow wr (some ⟨0, 0, none⟩) 0 0 [] → True := fun _ => trivial
              have ZR : Hid (ZRow wr so ds.length cp (ds.map fun x => wnum x e)) := ZRow.of_owns (e := 2) (base := w.heap.size) (by rw [hlen]; exact own) hlen.symm
              clear hA HB1 HB2 hnone own R row
              go_wp2
              refine bodyPost_ret (v := .tuple #[.slice so ds.length cp, .int .i64 e, .int .i64 0, .int .i64 0]) (by simp [results, Tryd.results10, go_sem]) rfl ⟨⟨so, cp, ?_, ?_⟩, KX⟩
              · first | rfl | rw [hlen]
              · first | exact ZR.out | (rw [hlen]; exact ZR.out)
end Go.Proofs.YtikmollocchfnabDoor

/- Doubled's bounds. -/
import Derived.Test.YtpdppjngbbkbbaaDoorVpB
namespace Go.Proofs.YtpdppjngbbkbbaaDoor
open Go.RowKit

/-- All pairs of uneven nodes weigh twice what the metric says at most. -/
def PairsD (ds : List (List Int)) (un : List Int) (nu : Nat) (pr : Nat → Nat → Int) : Prop := ∀ j, j < nu → ∀ i, i < j → Within (pr i j) (2 * zAt (rowAt ds i) (zAt un j).toNat)

set_option maxRecDepth 100000 in
set_option linter.unusedSimpArgs false in
set_option maxHeartbeats 4000000 in
theorem dblB_calls (wb ub xb : Nat) (pr : Nat → Nat → Int) (N n : Nat) (es : List Ed) (dO : Option Addr) (nd dc : Nat) (ds : List (List Int)) (uo : Option Addr) (nu uc : Nat) (un : List Int) (w : World) (hN : N ≤ 1024) (hu : w.cell? ⟨ub, 0, none⟩ = some (.slice uo nu uc)) (hx : w.cell? ⟨xb, 0, none⟩ = some (.slice dO nd dc)) (hU : JRow w uo nu uc un) (hD : LRow w dO nd dc ds) (hM : MetOk es N n ds nd un nu) (hr : ∀ j, j < nu → 0 ≤ zAt un j ∧ zAt un j < (N : Int)) (HB : Bounds w wb nu pr) :
    Calls Tryd.prog 85 #[.func (.func 103) #[] #[.pointer (some ⟨wb, 0, none⟩)], .pointer (some ⟨ub, 0, none⟩), .pointer (some ⟨xb, 0, none⟩)] w fun e w' => Kept w w' ∧ ((PairsD ds un nu pr ∧ e = .returned (.tuple #[])) ∨ (¬ PairsD ds un nu pr ∧ e = .panicked [{ v := .iface 140 (.agg #[.int .i64 221]), recovered := false }])) := by
  have hr2 := hU.room
  have hm2 := hU.most
  have hr3 := hD.room
  have hm3 := hD.most
  unfold maxLen at hm2 hm3
  have HU := hid_of hU
  have HD := hid_of hD
  have HM := hid_of hM
  have HR := hid_of hr
  have HXB := hid_of hx
  have HBH := hid_of HB
  obtain rfl : nd = nu := hM.1
  clear hU hD hM hr HB hx
  go_enter Tryd.func85, Tryd.ntmps85
  go_wp2_with fail
  go_loopw [4, 5, 6, 9, 15] (fun _ _ _ i _ wr => ∃ (k : Nat), k ≤ nd ∧ i = .int .i64 k ∧ Kept w wr ∧ ∀ j, j < k → ∀ i, i < j → Within (pr i j) (2 * zAt (rowAt ds i) (zAt un j).toNat)) (fun _ _ _ i _ _ => nd - (intOf i).toNat)
  case atStart => exact ⟨0, by omega, rfl, Kept.refl _, fun i hi => by omega⟩
  case round =>
    obtain ⟨k, hk, rfl, K, hno⟩ := hrel
    have HNO := hid_of hno
    have KH := hid_of K
    clear hno hu
    by_cases hgo : (k : Int) < (nd : Int)
    · obtain ⟨b, off, rfl, hc⟩ := (HU.out.kept K).at (by omega)
      have d5 := hc k (by omega)
      obtain ⟨y1, y2⟩ := HR.out k (by omega)
      have HIT : Hid ((∀ i, i < k → Within (pr i k) (2 * zAt (rowAt ds i) (zAt un k).toNat)) → ∀ j, j < k + 1 → ∀ i, i < j → Within (pr i j) (2 * zAt (rowAt ds i) (zAt un j).toNat)) := fun hb j hj => by
        by_cases e : j = k
        · subst e; exact hb
        · exact HNO.out j (by omega)
      have MISS : Hid (∀ i, i < k → ¬ Within (pr i k) (2 * zAt (rowAt ds i) (zAt un k).toNat) → ¬ PairsD ds un nd pr) := fun i hi hb t => hb (t k (by omega) i hi)
      obtain ⟨y, hy⟩ : ∃ y : Nat, zAt un k = (y : Int) := ⟨(zAt un k).toNat, by omega⟩
      rw [hy] at d5 y2
      rw [hy, Int.toNat_natCast] at HIT MISS
      have hyN : y < N := by omega
      clear hc K y1 hy
      obtain ⟨wo, hwo⟩ : ∃ x, x = wr := ⟨_, rfl⟩
      subst hwo
      go_wp2_with fail
      go_loopw [6, 15] (fun _ i w2 => ∃ (l : Nat), l ≤ k ∧ i = .int .i64 l ∧ Kept w w2 ∧ ∀ i, i < l → Within (pr i k) (2 * zAt (rowAt ds i) y)) (fun _ i _ => k - (intOf i).toNat)
      case atStart => exact ⟨0, by omega, rfl, KH.out, fun i hi => by omega⟩
      case round =>
        obtain ⟨l, hl, rfl, K, hin⟩ := hrel
        have HIN := hid_of hin
        have K2 := hid_of K
        clear hin d5
        by_cases hgo2 : (l : Int) < (k : Int)
        · obtain ⟨b3, off3, rfl, hc3⟩ := (HD.out.kept K).cell (by omega)
          obtain ⟨ro, rl, rc, c1, JR⟩ := hc3 l (by omega)
          obtain ⟨po, p2, p3⟩ := HM.out.2 l (by omega)
          have hrl : rl = N := by rw [JR.len]; exact po.1
          obtain ⟨b4, off4, rfl, hc4⟩ := JR.at (by omega)
          have d7 := hc4 y (by omega)
          obtain ⟨v1, v2⟩ := po.2 y hyN
          have hrr := JR.room
          have hrm := JR.most
          unfold maxLen at hrm
          have hx := K.cell HXB.out
          have HIT2 : Hid (Within (pr l k) (2 * zAt (rowAt ds l) y) → ∀ i, i < l + 1 → Within (pr i k) (2 * zAt (rowAt ds i) y)) := fun hb i hi => by
            by_cases e : i = l
            · subst e; exact hb
            · exact HIN.out i (by omega)
          have MISS2 := hid_of (MISS.out l (by omega))
          generalize zAt (rowAt ds l) y = dd at d7 v1 v2 HIT2 MISS2
          have AC := hid_of (HBH.out l k (by omega) (by omega) (2 * dd) wr K)
          have WR : IntKind.i64.wrap (2 * dd) = 2 * dd := wrap_id (by omega) (by omega)
          clear hc3 hc4 JR po p2 p3 K v1 v2
          go_wp2_with fail
          refine AC.out.mono ?_
          rintro e w5 ⟨K5, ⟨hw, rfl⟩ | ⟨hw, rfl⟩⟩
          · have P := hid_of (HIT2.out hw)
            have KN := hid_of (K2.out.trans K5)
            clear HIT2 MISS2 AC K5 hw c1 d7 hx HIT MISS
            go_wp2_with fail
            go_roundw
            case rel => exact ⟨l + 1, by omega, by go_num, KN.out, P.out⟩
            case measure => simp [intOf]; omega
          · have P := hid_of (MISS2.out hw)
            have KN := hid_of (K2.out.trans K5)
            clear HIT2 MISS2 AC K5 hw c1 d7 hx HIT MISS
            go_wp2
            exact ⟨rfl, KN.out, .inr ⟨P.out, rfl⟩⟩
        · obtain rfl : l = k := by omega
          have P := hid_of (HIT.out HIN.out)
          clear K HIT MISS
          go_wp2_with fail
          go_roundw
          case rel => exact ⟨l + 1, by omega, by go_num, K2.out, P.out⟩
          case measure => simp [intOf]; omega
    · obtain rfl : k = nd := by omega
      clear K
      go_wp2
      exact bodyPost_end (v := .tuple #[]) (by simp [results, Tryd.results85]) rfl ⟨KH.out, .inl ⟨HNO.out, rfl⟩⟩
end Go.Proofs.YtpdppjngbbkbbaaDoor

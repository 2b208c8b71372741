/- What the program's isRune, Kind, Fold answer. -/
import Derived.Test.YtbblmpibekkbfaaDoorUTabM
import Derived.Test.YtbblmpibekkbfaaDoorShelf
namespace Go.Proofs.YtbblmpibekkbfaaDoor
open Go.RowKit

theorem validRune_isI {r : Int} (h0 : 0 ≤ r) (h1 : r ≤ 1114111) : Lib.validRune r = isI r := by
  unfold Lib.validRune isI
  rw [decide_eq_decide]
  omega
set_option maxRecDepth 100000 in
theorem pis_any (r : Int) (w : World) (h : -9223372036854775808 ≤ r ∧ r ≤ 9223372036854775807) : Calls Tryd.prog 41 #[.int .i64 r] w fun e w' => e = .returned (.bool (isI r)) ∧ w = w' := by
  have hno : (r < 0 ∨ 1114111 < r) → isI r = false := fun a => by unfold isI; exact decide_eq_false (by omega)
  by_cases h0 : 0 ≤ r
  · by_cases h1 : r ≤ 1114111
    · have CV := Lib.hid (Tryd.utf8_ValidRune r w)
      rw [validRune_isI h0 h1] at CV
      have hw : IntKind.i32.wrap r = r := IntWalk.i32_in _ (by omega)
      clear hno
      go_enter Tryd.func41, Tryd.ntmps41
      go_wp2_with fail
      refine CV.out.mono ?_
      rintro e w1 ⟨rfl, rfl⟩
      go_wp2
      go_ret
      exact ⟨rfl, rfl⟩
    · rw [hno (by omega)]
      clear hno
      go_enter Tryd.func41, Tryd.ntmps41
      go_wp2
      go_ret
      exact ⟨rfl, rfl⟩
  · rw [hno (by omega)]
    clear hno
    go_enter Tryd.func41, Tryd.ntmps41
    go_wp2
    go_ret
    exact ⟨rfl, rfl⟩

set_option maxRecDepth 100000 in
set_option maxHeartbeats 2000000 in
theorem pkind_any (r : Int) (w : World) (hT : Tabs w) (h : -9223372036854775808 ≤ r ∧ r ≤ 9223372036854775807) : Calls Tryd.prog 42 #[.int .i64 r] w fun e w' => e = .returned (.int .i64 (kindI r : Nat)) ∧ Below w.heap.size w w' := by
  have CI := Lib.hid (pis_any r w h)
  cases hi : isI r with
  | false =>
    rw [hi] at CI
    rw [kindI_no hi]
    clear hT
    go_enter Tryd.func42, Tryd.ntmps42
    go_wp2_with fail
    refine CI.out.mono ?_
    rintro e w1 ⟨rfl, rfl⟩
    go_wp2
    go_ret
    exact ⟨rfl, Below.refl _ _⟩
  | true =>
    rw [hi] at CI
    obtain ⟨kr, rfl, hk⟩ := isI_of hi
    have hr0 : kr ≤ 1114111 := by unfold isRn at hk; exact (of_decide_eq_true hk).1
    clear hk hi
    obtain ⟨b, off, hg, hc⟩ := hT.2.1
    clear hT
    have HS := Lib.hid (scanK_kind (kr : Int))
    have hw : IntKind.i32.wrap (kr : Int) = (kr : Int) := IntWalk.i32_in _ (by omega)
    have hbl : b < w.heap.size := ulive (hc 0 (by decide)).1
    have HC := Lib.hid hc
    clear hc
    have hn : kindsT.length = 34 := rfl
    have HN := Lib.hid hn
    clear hn
    generalize kindI (kr : Int) = V at *
    go_enter Tryd.func42, Tryd.ntmps42
    go_wp2_with fail
    refine CI.out.mono ?_
    rintro e w1 ⟨rfl, rfl⟩
    clear CI
    go_wp2
    go_loopw [13] (fun i wr => ∃ k : Nat, k ≤ 34 ∧ i = .int .i64 k ∧ Hid (scanK (kindsT.drop k) (kr : Int) = (V : Int)) ∧ Hid (Below w.heap.size w wr)) (fun i _ => 34 - (intOf i).toNat)
    case atStart => exact ⟨0, Nat.zero_le _, rfl, HS, Below.refl _ _⟩
    case round =>
      obtain ⟨k, hk, rfl, HK, HB⟩ := hrel
      have hbr := HB.out.size
      by_cases hlt : k < 34
      · have hkL : k < kindsT.length := by rw [HN.out]; exact hlt
        obtain ⟨c0, c1, c2⟩ := HC.out k hkL
        have d0 := (HB.out.cell (p := ⟨b, off + k * 3, none⟩) hbl).trans c0
        have d1 := (HB.out.cell (p := ⟨b, off + k * 3 + 1, none⟩) hbl).trans c1
        have d2 := (HB.out.cell (p := ⟨b, off + k * 3 + 2, none⟩) hbl).trans c2
        have HA := Lib.hid (scanK_at hkL (kr : Int))
        have hok := kindsT_ok _ (List.getElem_mem hkL)
        rw [HK.out] at HA
        clear c0 c1 c2
        generalize kindsT[k] = x at *
        obtain ⟨xa, xb, xk⟩ := x
        dsimp only at *
        obtain ⟨o0, o1, o2, o3, o4, o5⟩ := hok
        by_cases a1 : (kr : Int) < xa
        · have HV : Hid ((0 : Int) = (V : Int)) := by show _ = _; rw [HA.out, if_pos a1]
          go_wp2
          go_ret
          exact ⟨congrArg (fun z => Ending.returned (.int .i64 z)) HV.out, HB.out.alloc hbr _⟩
        · by_cases a2 : (kr : Int) ≤ xb
          · have HV : Hid (xk = (V : Int)) := by show _ = _; rw [HA.out, if_neg a1, if_pos a2]
            go_wp2
            go_ret
            exact ⟨congrArg (fun z => Ending.returned (.int .i64 z)) HV.out, HB.out.alloc hbr _⟩
          · have HK2 : Hid (scanK (kindsT.drop (k + 1)) (kr : Int) = (V : Int)) := by show _ = _; rw [HA.out, if_neg a1, if_neg a2]
            go_wp2
            go_roundw
            case rel => exact ⟨k + 1, by omega, by go_num, HK2, HB.out.alloc hbr _⟩
            case measure => simp [intOf]; omega
      · have hkn : k = 34 := by omega
        subst hkn
        have HV : Hid ((0 : Int) = (V : Int)) := by
          show _ = _
          rw [← HK.out]; rfl
        go_wp2
        go_ret
        exact ⟨congrArg (fun z => Ending.returned (.int .i64 z)) HV.out, HB.out⟩

set_option maxRecDepth 100000 in
set_option maxHeartbeats 4000000 in
theorem pfold_any (r : Int) (w : World) (hT : Tabs w) (h : -9223372036854775808 ≤ r ∧ r ≤ 9223372036854775807) : Calls Tryd.prog 27 #[.int .i64 r] w fun e w' => e = .returned (.int .i64 (foldI r)) ∧ Below w.heap.size w w' := by
  have CI := Lib.hid (pis_any r w h)
  cases hi : isI r with
  | false =>
    rw [hi] at CI
    rw [foldI_no hi]
    clear hT
    go_enter Tryd.func27, Tryd.ntmps27
    go_wp2_with fail
    refine CI.out.mono ?_
    rintro e w1 ⟨rfl, rfl⟩
    go_wp2
    go_ret
    exact ⟨rfl, Below.refl _ _⟩
  | true =>
    rw [hi] at CI
    obtain ⟨kr, rfl, hk⟩ := isI_of hi
    have hr0 : kr ≤ 1114111 := by unfold isRn at hk; exact (of_decide_eq_true hk).1
    clear hk hi
    obtain ⟨b, off, hg, hc⟩ := hT.2.2
    clear hT
    have HS := Lib.hid (scanF_fold (kr : Int))
    have hw : IntKind.i32.wrap (kr : Int) = (kr : Int) := IntWalk.i32_in _ (by omega)
    have hbl : b < w.heap.size := ulive (hc 0 (by decide)).1
    have HC := Lib.hid hc
    clear hc
    have hn : foldsT.length = 16 := rfl
    have HN := Lib.hid hn
    clear hn
    generalize foldI (kr : Int) = V at *
    go_enter Tryd.func27, Tryd.ntmps27
    go_wp2_with fail
    refine CI.out.mono ?_
    rintro e w1 ⟨rfl, rfl⟩
    clear CI
    go_wp2
    go_loopw [14] (fun i wr => ∃ k : Nat, k ≤ 16 ∧ i = .int .i64 k ∧ Hid (scanF (foldsT.drop k) (kr : Int) = V) ∧ Hid (Below w.heap.size w wr)) (fun i _ => 16 - (intOf i).toNat)
    case atStart => exact ⟨0, Nat.zero_le _, rfl, HS, Below.refl _ _⟩
    case round =>
      obtain ⟨k, hk, rfl, HK, HB⟩ := hrel
      have hbr := HB.out.size
      by_cases hlt : k < 16
      · have hkL : k < foldsT.length := by rw [HN.out]; exact hlt
        obtain ⟨c0, c1, c2, c3⟩ := HC.out k hkL
        have d0 := (HB.out.cell (p := ⟨b, off + k * 4, none⟩) hbl).trans c0
        have d1 := (HB.out.cell (p := ⟨b, off + k * 4 + 1, none⟩) hbl).trans c1
        have d2 := (HB.out.cell (p := ⟨b, off + k * 4 + 2, none⟩) hbl).trans c2
        have d3 := (HB.out.cell (p := ⟨b, off + k * 4 + 3, none⟩) hbl).trans c3
        have HA := Lib.hid (scanF_at hkL (kr : Int))
        have hok := foldsT_ok _ (List.getElem_mem hkL)
        rw [HK.out] at HA
        clear c0 c1 c2 c3
        generalize foldsT[k] = x at *
        obtain ⟨xa, xb, xe, xd⟩ := x
        dsimp only at *
        obtain ⟨o0, o1, o2, o3, o4, o5, o6⟩ := hok
        by_cases a1 : (kr : Int) < xa
        · have HV : Hid ((kr : Int) = V) := by show _ = _; rw [HA.out, if_pos a1]
          go_wp2
          go_ret
          exact ⟨congrArg (fun z => Ending.returned (.int .i64 z)) HV.out, HB.out.alloc hbr _⟩
        · by_cases a2 : (kr : Int) ≤ xb
          · have hw1 : IntKind.i32.wrap ((kr : Int) - xa) = (kr : Int) - xa := IntWalk.i32_in _ (by omega)
            have hw2 : IntKind.i32.wrap ((kr : Int) + xd) = (kr : Int) + xd := IntWalk.i32_in _ (by omega)
            have htm : ((kr : Int) - xa).tmod xe = ((kr : Int) - xa) % xe := Int.tmod_eq_emod_of_nonneg (by omega)
            have hm0 : 0 ≤ ((kr : Int) - xa) % xe ∧ ((kr : Int) - xa) % xe < 2 := by rcases o4 with rfl | rfl <;> omega
            have hwm : IntKind.i32.wrap (((kr : Int) - xa) % xe) = ((kr : Int) - xa) % xe := IntWalk.i32_in _ (by omega)
            have hne : ¬ xe = 0 := by omega
            by_cases a3 : ((kr : Int) - xa) % xe = 0
            · have HV : Hid ((kr : Int) + xd = V) := by show _ = _; rw [HA.out, if_neg a1, if_pos ⟨a2, a3⟩]
              go_wp2
              go_ret
              exact ⟨congrArg (fun z => Ending.returned (.int .i64 z)) HV.out, HB.out.alloc hbr _⟩
            · have HK2 : Hid (scanF (foldsT.drop (k + 1)) (kr : Int) = V) := by show _ = _; rw [HA.out, if_neg a1, if_neg (fun h => a3 h.2)]
              have hbe : (((kr : Int) - xa) % xe == 0) = false := beq_eq_false_iff_ne.2 a3
              go_wp2
              go_roundw
              case rel => exact ⟨k + 1, by omega, by go_num, HK2, HB.out.alloc hbr _⟩
              case measure => simp [intOf]; omega
          · have HK2 : Hid (scanF (foldsT.drop (k + 1)) (kr : Int) = V) := by show _ = _; rw [HA.out, if_neg a1, if_neg (fun h => a2 h.1)]
            go_wp2
            go_roundw
            case rel => exact ⟨k + 1, by omega, by go_num, HK2, HB.out.alloc hbr _⟩
            case measure => simp [intOf]; omega
      · have hkn : k = 16 := by omega
        subst hkn
        have HV : Hid ((kr : Int) = V) := by
          show _ = _
          rw [← HK.out]; rfl
        go_wp2
        go_ret
        exact ⟨congrArg (fun z => Ending.returned (.int .i64 z)) HV.out, HB.out⟩
end Go.Proofs.YtbblmpibekkbfaaDoor

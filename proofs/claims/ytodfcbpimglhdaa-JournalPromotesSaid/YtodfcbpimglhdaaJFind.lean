/- What findSlot answers and leaves behind: the slot that counts. -/
import Derived.Test.YtodfcbpimglhdaaJNext
import Derived.Test.YtodfcbpimglhdaaJSlot
import Derived.BigRegion
import Derived.Lib.MinMax
import Derived.BigQuiet
import Derived.Deep.QuietTactic
namespace Go.Proofs.Ytodfcbpimglhdaa
open Go.RowKit

section
variable {S : Nat → Prop} {w w' : World} {a p : Nat} {J : JS} {D : DevS}

/-- The best of the first k slots, and its block. -/
def DevS.best (D : DevS) : Nat → Option ((Nat × Nat × Nat × Nat) × Nat)
  | 0 => none
  | k + 1 => match D.slotAt k with
    | none => D.best k
    | some x => match D.best k with
      | none => some (x, k)
      | some y => if y.1.1 < x.1 then some (x, k) else some y
/-- The journal while the slots are read. -/
def bestJ : Option ((Nat × Nat × Nat × Nat) × Nat) → JS
  | none => ⟨0, 0, 0, 0, 0, 0, 0⟩
  | some x => ⟨x.1.1, x.1.2.1, x.1.2.2.1, x.1.2.2.2, x.2, 0, 0⟩
theorem find_best (D : DevS) : D.find = (D.best 2).map (fun x => slotJ x.1 x.2) := by
  unfold DevS.find
  show _ = Option.map _ (match D.slotAt 1 with | none => D.best 1 | some x => match D.best 1 with | none => some (x, 1) | some y => if y.1.1 < x.1 then some (x, 1) else some y)
  have h1 : D.best 1 = match D.slotAt 0 with | none => none | some x => some (x, 0) := by
    show (match D.slotAt 0 with | none => D.best 0 | some x => match D.best 0 with | none => some (x, 0) | some y => if y.1.1 < x.1 then some (x, 0) else some y) = _
    rfl
  rw [h1]
  cases D.slotAt 0 with
  | none => cases D.slotAt 1 <;> rfl
  | some x =>
    cases D.slotAt 1 with
    | none => rfl
    | some y =>
      show (if x.1 < y.1 then _ else _) = Option.map _ (if x.1 < y.1 then _ else _)
      split <;> rfl
theorem best_one (D : DevS) (h : D.disk.length = 1) : D.best 2 = D.best 1 := by
  have : D.slotAt 1 = none := by unfold DevS.slotAt; rw [if_neg (by omega)]
  show (match D.slotAt 1 with | none => D.best 1 | some x => _) = _
  rw [this]
theorem best_none (D : DevS) (k : Nat) (h : D.slotAt k = none) : D.best (k + 1) = D.best k := by
  show (match D.slotAt k with | none => D.best k | some x => _) = _
  rw [h]
theorem best_some (D : DevS) (k : Nat) {x : Nat × Nat × Nat × Nat} (h : D.slotAt k = some x) : D.best (k + 1) = match D.best k with | none => some (x, k) | some y => if y.1.1 < x.1 then some (x, k) else some y := by
  show (match D.slotAt k with | none => D.best k | some x => _) = _
  rw [h]

set_option maxRecDepth 100000 in
set_option maxHeartbeats 2000000 in
theorem find_dead (hj : Jr 85 w a p J) (hd : Stands S w p D) (hde : D.dead = true) (hp : D.pend.length ≤ 1000000) :
    Calls Try.prog 47 #[.pointer (some ⟨a, 0, none⟩)] w fun e w' => e = .returned (.int .i64 4) ∧ Below w.heap.size w w' := by
  have h1 := hd.ok.some
  have hnd := hd.ok.few
  have hr : D.rd 0 = (ByteArray.empty, 4) := by unfold DevS.rd DevS.ck; rw [hde]; rfl
  have CBl : Hid (∀ W, Below w.heap.size w W → Calls Try.prog 38 #[.pointer (some ⟨p, 0, none⟩)] W fun e w' => e = .returned (.int .i64 D.disk.length) ∧ W = w') := fun W hW => blocks_any (hd.below hW)
  have CR : Hid (∀ W, Below w.heap.size w W → Calls Try.prog 37 #[.pointer (some ⟨p, 0, none⟩), .int .i64 0] W fun e w' => e = .returned (.tuple #[.string ByteArray.empty, .int .i64 4]) ∧ Below W.heap.size W w') := fun W hW => by
    have := read_any 0 hp (hd.below hW); rw [hr] at this; exact this
  have c0 := hj.c0
  have HKp : Hid (∀ W, Below w.heap.size w W → W.cell? ⟨a, 0, none⟩ = some (.pointer (some ⟨p, 0, none⟩))) := fun W hW => (hW.cell (p := ⟨a, 0, none⟩) hj.lt).trans c0
  clear hj hd hr
  generalize D.disk.length = nd at *
  obtain ⟨M, hM⟩ : ∃ M : Nat, M = min 2 nd := ⟨_, rfl⟩
  have hM1 : 1 ≤ M := by omega
  go_enter Try.func47, Try.ntmps47
  go_wp2_with fail
  refine (CBl.out _ (Below.refl _ _)).mono ?_
  rintro e w1 ⟨rfl, rfl⟩
  go_wp2_with fail
  go_loopw [15] (fun i wr => i = .int .i64 0 ∧ wr = w) (fun _ _ => 0)
  case atStart => exact ⟨rfl, rfl⟩
  case round =>
    obtain ⟨rfl, rfl⟩ := hrel
    have h2 : (0 : Int) < min 2 (nd : Int) := by omega
    go_wp2_with fail
    refine (CR.out _ (Below.refl _ _)).mono ?_
    rintro e w1 ⟨rfl, hb⟩
    have HB := Lib.hid hb; clear hb
    go_wp2
    go_ret
    exact ⟨rfl, HB.out⟩

/-- What findSlot tells. -/
def FindP (D : DevS) (a p : Nat) (e : Ending) (w' : World) : Prop := (D.find = none → e = .returned (.int .i64 10)) ∧ ∀ J, D.find = some J → e = .returned (.int .i64 0) ∧ Jr 85 w' a p J

/-- A slot's fields stored into a journal. -/
abbrev slW (w : World) (a : Nat) (x : Nat × Nat × Nat × Nat) (k : Nat) : World := ((((w.setCell ⟨a, 1, none⟩ (.int .u64 (x.1 : Int))).setCell ⟨a, 2, none⟩ (.int .u64 (x.2.1 : Int))).setCell ⟨a, 3, none⟩ (.int .i64 (x.2.2.1 : Int))).setCell ⟨a, 4, none⟩ (.int .i64 (x.2.2.2 : Int))).setCell ⟨a, 5, none⟩ (.int .i64 (k : Int))
theorem sl_only (w : World) (a : Nat) (x : Nat × Nat × Nat × Nat) (k : Nat) : Only (fun k => k = a) w (slW w a x k) :=
  (((((Only.refl (fun k => k = a) w).setCell (p := ⟨a, 1, none⟩) (fun _ => rfl) _).setCell (p := ⟨a, 2, none⟩) (fun _ => rfl) _).setCell (p := ⟨a, 3, none⟩) (fun _ => rfl) _).setCell (p := ⟨a, 4, none⟩) (fun _ => rfl) _).setCell (p := ⟨a, 5, none⟩) (fun _ => rfl) _
theorem Jr.sl {t : TypeId} (h : Jr t w a p J) (x : Nat × Nat × Nat × Nat) (k : Nat) : Jr t (slW w a x k) a p ⟨x.1, x.2.1, x.2.2.1, x.2.2.2, k, J.next, J.full⟩ := by
  have h1 := h.put (J' := { J with e := x.1 }) (i := 1) (v := .int .u64 (x.1 : Int)) (by simp [JCells])
  have h2 := h1.put (J' := { J with e := x.1, s := x.2.1 }) (i := 2) (v := .int .u64 (x.2.1 : Int)) (by simp [JCells])
  have h3 := h2.put (J' := { J with e := x.1, s := x.2.1, log := x.2.2.1 }) (i := 3) (v := .int .i64 (x.2.2.1 : Int)) (by simp [JCells])
  have h4 := h3.put (J' := { J with e := x.1, s := x.2.1, log := x.2.2.1, p := x.2.2.2 }) (i := 4) (v := .int .i64 (x.2.2.2 : Int)) (by simp [JCells])
  exact h4.put (J' := ⟨x.1, x.2.1, x.2.2.1, x.2.2.2, k, J.next, J.full⟩) (i := 5) (v := .int .i64 (k : Int)) (by simp [JCells])

set_option maxRecDepth 100000 in
set_option maxHeartbeats 4000000 in
theorem find_live (hj : Jr 85 w a p ⟨0, 0, 0, 0, 0, 0, 0⟩) (hd : Stands S w p D) (ha : ¬ S a) (hde : D.dead = false) (hp : D.pend.length ≤ 1000000) :
    Calls Try.prog 47 #[.pointer (some ⟨a, 0, none⟩)] w fun e w' => Only (fun k => k = a) w w' ∧ FindP D a p e w' := by
  have h1 := hd.ok.some
  have hnd := hd.ok.few
  have hal := hj.lt
  have CBl : Hid (∀ W, Only (fun k => k = a) w W → Calls Try.prog 38 #[.pointer (some ⟨p, 0, none⟩)] W fun e w' => e = .returned (.int .i64 D.disk.length) ∧ W = w') := fun W hW => blocks_any (hd.kept hW (fun k hk hka => ha (hka ▸ hk)))
  have CR : Hid (∀ W k, k < D.disk.length → Only (fun k => k = a) w W → Calls Try.prog 37 #[.pointer (some ⟨p, 0, none⟩), .int .i64 ((k : Nat) : Int)] W fun e w' => e = .returned (.tuple #[.string (D.rdB k), .int .i64 0]) ∧ Below W.heap.size W w') := fun W k hk hW => by
    have := read_any (k : Int) hp (hd.kept hW (fun k hk hka => ha (hka ▸ hk)))
    rw [DevS.rd_live hde _ hk] at this; exact this
  have CS : Hid (∀ W k, k < D.disk.length → Calls Try.prog 75 #[.string (D.rdB k), .int .i64 (D.disk.length : Int)] W fun r w' => r = .returned (slotV (D.slotAt k)) ∧ Below W.heap.size W w') := fun W k hk => by
    have := readSlot_any (D.rdB k) D.disk.length W (hd.ok.rdB_size k hk) hnd
    have e : D.slotAt k = rdSlot (D.rdB k) D.disk.length := by unfold DevS.slotAt; rw [if_pos hk]
    rw [e]; exact this
  have HFB := Lib.hid (find_best D)
  have HB1 := Lib.hid (best_one D)
  have HJ := Lib.hid hj
  have c0 := hj.c0
  clear hj hd ha hde
  obtain ⟨nd, hnd'⟩ : ∃ n, D.disk.length = n := ⟨_, rfl⟩
  rw [hnd'] at CBl CS CR h1 hnd HB1
  clear hnd'
  obtain ⟨M, hM⟩ : ∃ M : Nat, M = min 2 nd := ⟨_, rfl⟩
  have hMe : min 2 (nd : Int) = (M : Int) := by omega
  go_enter Try.func47, Try.ntmps47
  go_wp2_with fail
  refine (CBl.out _ (Only.refl _ _)).mono ?_
  rintro e w1 ⟨rfl, rfl⟩
  go_wp2_with fail
  go_loopw [3, 15] (fun fd i wr => ∃ k : Nat, k ≤ M ∧ i = .int .i64 k ∧ fd = .bool (D.best k).isSome ∧ Hid (Jr 85 wr a p (bestJ (D.best k))) ∧ Hid (Only (fun k => k = a) w wr)) (fun _ i _ => M - (intOf i).toNat)
  case atStart => exact ⟨0, Nat.zero_le _, rfl, rfl, HJ, Only.refl _ _⟩
  case round =>
    obtain ⟨k, hk, rfl, rfl, HJk, HO⟩ := hrel
    clear HJ c0
    by_cases hlt : k < M
    · have hkn : k < nd := by omega
      have ca := HJk.out.c0
      have halr := HJk.out.lt
      have CRk := Lib.hid (CR.out wr k hkn HO.out)
      have CSk := Lib.hid (fun W => CS.out W k hkn)
      have CBk : Hid (∀ W, Below wr.heap.size wr W → Calls Try.prog 38 #[.pointer (some ⟨p, 0, none⟩)] W fun e w' => e = .returned (.int .i64 nd) ∧ W = w') := fun W hW => CBl.out W (HO.out.trans (Only.of_below (fun _ => False) hW (Nat.le_refl _)) (fun _ _ f => f.elim))
      clear CR CS CBl
      generalize D.rdB k = tx at *
      have hlt' : (k : Int) < (M : Int) := by omega
      go_wp2_with fail
      refine CRk.out.mono ?_
      rintro e w1 ⟨rfl, hb1⟩
      have HB1' := Lib.hid hb1; clear hb1
      have ca1 := (HB1'.out.cell (p := ⟨a, 0, none⟩) halr).trans ca
      go_wp2_with fail
      refine (CBk.out _ HB1'.out).mono ?_
      rintro e w2 ⟨rfl, rfl⟩
      go_wp2_with fail
      refine (CSk.out _).mono ?_
      rintro e w3 ⟨rfl, hb3⟩
      have HB3 := Lib.hid (HB1'.out.trans (hb3.mono HB1'.out.size)); clear hb3 HB1' ca ca1 CRk CSk CBk
      have HJ3 := Lib.hid (HJk.out.below HB3.out)
      have HO3 : Hid (Only (fun k => k = a) w w3) := HO.out.trans (Only.of_below (fun _ => False) HB3.out (Nat.le_refl _)) (fun _ _ f => f.elim)
      have hal3 := HJ3.out.lt
      cases hs : D.slotAt k with
      | none =>
        have HBn : Hid (D.best (k + 1) = D.best k) := best_none D k hs
        have HBi : Hid ((D.best (k + 1)).isSome = (D.best k).isSome) := by show _ = _; rw [HBn.out]
        generalize (D.best k).isSome = fd at *
        simp only [slotV]
        clear hs
        go_wp2_with fail
        go_quiet (fail)
        go_wp2
        go_roundw
        case rel =>
          have hb : Below w3.heap.size w3 ((w3.alloc (.cells #[.int .u64 0, .int .u64 0, .int .i64 0, .int .i64 0] 83)).drewN nq) := Fr.below_drewN ((Below.refl _ _).alloc (Nat.le_refl _) _) _
          exact ⟨k + 1, by omega, by go_num, by rw [HBi.out], by rw [HBn.out]; exact HJ3.out.below hb, HO3.out.trans (Only.of_below (fun _ => False) hb (Nat.le_refl _)) (fun _ _ f => f.elim)⟩
        case measure => simp [intOf]; omega
      | some x =>
        have HBs := Lib.hid (best_some D k hs)
        clear hs
        obtain ⟨xe, xs, xl, xp⟩ := x
        simp only [slotV]
        obtain ⟨X, hX⟩ : ∃ X, w3.alloc (.cells #[.int .u64 (xe : Int), .int .u64 (xs : Int), .int .i64 (xl : Int), .int .i64 (xp : Int)] 83) = X := ⟨_, rfl⟩
        have hXb : Below w3.heap.size w3 X := by rw [← hX]; exact (Below.refl _ _).alloc (Nat.le_refl _) _
        have hXh : X.heap[w3.heap.size]? = some (.cells #[.int .u64 (xe : Int), .int .u64 (xs : Int), .int .i64 (xl : Int), .int .i64 (xp : Int)] 83 (0, 0)) := by rw [← hX, heap_alloc_new]
        have k0 : X.cell? ⟨w3.heap.size, 0, none⟩ = some (.int .u64 (xe : Int)) := by rw [cell_at hXh]; rfl
        have k1 : X.cell? ⟨w3.heap.size, 1, none⟩ = some (.int .u64 (xs : Int)) := by rw [cell_at hXh]; rfl
        have k2 : X.cell? ⟨w3.heap.size, 2, none⟩ = some (.int .i64 (xl : Int)) := by rw [cell_at hXh]; rfl
        have k3 : X.cell? ⟨w3.heap.size, 3, none⟩ = some (.int .i64 (xp : Int)) := by rw [cell_at hXh]; rfl
        have HJX := Lib.hid (HJ3.out.below hXb)
        have HOX : Hid (Only (fun k => k = a) w X) := HO3.out.trans (Only.of_below (fun _ => False) hXb (Nat.le_refl _)) (fun _ _ f => f.elim)
        have HX := Lib.hid hX
        have hne : w3.heap.size ≠ a := by omega
        clear hX hXb hXh HJ3 HO3 HB3 HJk
        cases hbk : D.best k with
        | none =>
          rw [hbk] at HBs HJX
          have HBn : Hid (D.best (k + 1) = some ((xe, xs, xl, xp), k)) := HBs.out
          simp only [Option.isSome_none]
          simp only [bestJ] at HJX
          clear HBs hbk
          have X0 := HJX.out.c1; have X1 := HJX.out.c2; have X2 := HJX.out.c3; have X3 := HJX.out.c4; have X4 := HJX.out.c5
          have F0 := HJX.out.f 1; have F1 := HJX.out.f 2; have F2 := HJX.out.f 3; have F3 := HJX.out.f 4; have F4 := HJX.out.f 5
          go_wp2_with fail
          rw [HX.out]
          go_quiet (fail)
          go_wp2_with fail
          go_region
          go_wp2
          go_roundw
          case rel => exact ⟨k + 1, by omega, by go_num, by rw [HBn.out]; rfl, by rw [HBn.out]; exact (HJX.out.sl (xe, xs, xl, xp) k).below (Fr.below_drewN (Below.refl _ _) _), (HOX.out.trans (sl_only X a (xe, xs, xl, xp) k) (fun _ _ h => h)).trans (Only.of_below (fun _ => False) (Fr.below_drewN (Below.refl _ _) _) (Nat.le_refl _)) (fun _ _ f => f.elim)⟩
          case measure => simp [intOf]; omega
        | some y =>
          obtain ⟨⟨ye, ys, yl, yp⟩, yi⟩ := y
          rw [hbk] at HBs HJX
          simp only [Option.isSome_some]
          simp only [bestJ] at HJX
          by_cases hg : ye < xe
          · have HBn : Hid (D.best (k + 1) = some ((xe, xs, xl, xp), k)) := by
              show _ = _; rw [HBs.out]; show (if ye < xe then _ else _) = _; rw [if_pos hg]
            have hg' : (ye : Int) < (xe : Int) := by omega
            have hgd : decide ((ye : Int) < (xe : Int)) = true := decide_eq_true hg'
            clear HBs hbk
            have X0 := HJX.out.c1; have X1 := HJX.out.c2; have X2 := HJX.out.c3; have X3 := HJX.out.c4; have X4 := HJX.out.c5
            have F0 := HJX.out.f 1; have F1 := HJX.out.f 2; have F2 := HJX.out.f 3; have F3 := HJX.out.f 4; have F4 := HJX.out.f 5
            go_wp2_with fail
            rw [HX.out]
            go_quiet (fail)
            go_wp2_with fail
            go_region
            go_wp2
            go_roundw
            case rel => exact ⟨k + 1, by omega, by go_num, by rw [HBn.out]; rfl, by rw [HBn.out]; exact (HJX.out.sl (xe, xs, xl, xp) k).below (Fr.below_drewN (Below.refl _ _) _), (HOX.out.trans (sl_only X a (xe, xs, xl, xp) k) (fun _ _ h => h)).trans (Only.of_below (fun _ => False) (Fr.below_drewN (Below.refl _ _) _) (Nat.le_refl _)) (fun _ _ f => f.elim)⟩
            case measure => simp [intOf]; omega
          · have HBn : Hid (D.best (k + 1) = some ((ye, ys, yl, yp), yi)) := by
              show _ = _; rw [HBs.out]; show (if ye < xe then _ else _) = _; rw [if_neg hg]
            have hg' : ¬ (ye : Int) < (xe : Int) := by omega
            have hgd : decide ((ye : Int) < (xe : Int)) = false := decide_eq_false hg'
            have X0 := HJX.out.c1
            clear HBs hbk
            go_wp2_with fail
            rw [HX.out]
            go_quiet (fail)
            go_wp2
            go_roundw
            case rel => exact ⟨k + 1, by omega, by go_num, by rw [HBn.out]; rfl, by rw [HBn.out]; exact HJX.out.below (Fr.below_drewN (Below.refl _ _) _), HOX.out.trans (Only.of_below (fun _ => False) (Fr.below_drewN (Below.refl _ _) _) (Nat.le_refl _)) (fun _ _ f => f.elim)⟩
            case measure => simp [intOf]; omega
    · have hkn : k = M := by omega
      have hb2 : D.best k = D.best 2 := by
        by_cases h2 : nd = 1
        · rw [HB1.out h2, hkn, hM, h2]; rfl
        · rw [hkn, hM, show min 2 nd = 2 by omega]
      have hlt' : ¬ (k : Int) < (M : Int) := by omega
      rw [hb2] at HJk ⊢
      cases hb : D.best 2 with
      | none =>
        rw [hb] at HJk
        have HF : Hid (D.find = none) := by show _ = _; rw [HFB.out, hb]; rfl
        simp only [Option.isSome_none]
        clear hb hb2 hkn
        go_wp2
        go_ret
        exact ⟨HO.out, fun _ => rfl, fun J h => by rw [HF.out] at h; cases h⟩
      | some y =>
        obtain ⟨⟨ye, ys, yl, yp⟩, yi⟩ := y
        rw [hb] at HJk
        have HF : Hid (D.find = some ⟨ye, ys, yl, yp, yi, ys, 0⟩) := by show _ = _; rw [HFB.out, hb]; rfl
        simp only [Option.isSome_some]
        simp only [bestJ] at HJk
        have c2 := HJk.out.c2; have c6 := HJk.out.c6; have f6 := HJk.out.f 6
        clear hb hb2 hkn
        go_wp2
        go_ret
        refine ⟨HO.out.setCell (p := ⟨a, 6, none⟩) (fun _ => rfl) _, fun h => (by rw [HF.out] at h; cases h), fun J h => ?_⟩
        rw [HF.out] at h
        cases h
        exact ⟨rfl, HJk.out.put (J' := ⟨ye, ys, yl, yp, yi, ys, 0⟩) (i := 6) (by simp [JCells])⟩
end
end Go.Proofs.Ytodfcbpimglhdaa

/- What a steady journal's Read, sound, mend, asTold and Commit answer and leave, while the power is there. -/
import Derived.Test.YthambopnmhkeeaaGreatZJRedo
import Derived.Test.YthambopnmhkeeaaGreatZShelf
import Derived.Deep.RegionHeld3
import Derived.Test.YthambopnmhkeeaaGreatZSTold
import Derived.Test.YthambopnmhkeeaaGreatZJSlot
import Derived.Test.YthambopnmhkeeaaGreatZFBase
import Derived.Test.YthambopnmhkeeaaGreatZCalls2
import Derived.IntWalk
import Derived.Deep.DeepCutAuto
import Derived.Test.YthambopnmhkeeaaGreatZNewD
import Derived.Test.YthambopnmhkeeaaGreatZFUnpR
import Derived.Test.YthambopnmhkeeaaGreatZLHelp

set_option maxRecDepth 100000
namespace Go.Proofs.YthambopnmhkeeaaGreat
open Go.RowKit
open Fr (SlW OwnW WritesAt)
section
variable {S SD T : Nat -> Prop} {w w' : World} {h j p n N : Nat} {H : Int -> ByteArray} {sv : Value} {L M : List Wr} {J : JS} {D : DevS} {F : List (List Wr)} {G : Nat -> ByteArray}
theorem sl_cells {ao : Option Addr} {c q : Nat} (hs : SlW w (.slice ao q c) M) (hq : M.length = q) : ∀ k (hk : k < M.length), ∃ b off, ao = some ⟨b, off, none⟩ /\ b < w.heap.size /\ w.cell? ⟨b, off + k * 2, none⟩ = some (.int .i64 M[k].1) /\ w.cell? ⟨b, off + k * 2 + 1, none⟩ = some (.string M[k].2) := by
 intro k hk
 obtain ⟨b, off, c', hv, _, hb, hc⟩ := hs.here (by omega)
 have : ao = some ⟨b, off, none⟩ := by simpa using congrArg (fun v => match v with | Value.slice a _ _ => a | _ => none) hv
 exact ⟨b, off, this, hb, (hc k hk).1, (hc k hk).2⟩
set_option maxHeartbeats 1000000 in
theorem hread_any (m : Hm S SD w h j p n N H sv L J D F G) (i : Int) (h1 : 62 <= i) (h2 : i < n) :
  Calls Tryz.prog 198 #[.pointer (some ⟨h, 0, none⟩), .int .i64 i] w fun e w' => e = .returned (.tuple #[.string (H i), .int .i64 0]) /\ Below w.heap.size w w' := by
 have c0 := m.c0; have c1 := m.c1
 have cj := m.jr.c0
 have hhl := m.hlt
 have hjl := m.jr.lt
 have hfew := m.few
 have HSU : Hid (∀ k (hk : k < L.length), L[k].1 = i -> L[k].2 = H i) := fun k hk e => by rw [(m.sure _ (List.getElem_mem hk)).2.2, e]
 have CR : Hid (∀ W, Below w.heap.size w W -> Calls Tryz.prog 147 #[.pointer (some ⟨p, 0, none⟩), .int .i64 i] W fun e w' => e = .returned (.tuple #[.string (H i), .int .i64 0]) /\ Below W.heap.size W w') := fun W hW => by
  have := read_any i (by have := m.pd'; omega) (m.dev.below hW)
  rw [m.rd i h1 h2] at this; exact this
 have hsl := m.sl
 obtain ⟨ao, c, hv, _⟩ := hsl
 have hsl2 := m.sl
 rw [hv] at hsl2
 have HC := Lib.hid (sl_cells hsl2 rfl)
 rw [hv] at c1
 clear hsl2 m hv
 obtain ⟨q, hq⟩ : ∃ q, L.length = q := ⟨_, rfl⟩
 rw [hq] at c1 hfew
 have HQ := Lib.hid hq
 clear hq
 generalize H i = V at *
 go_enter Tryz.func198, Tryz.ntmps198
 go_wp2_with fail
 go_loopw [13] (fun v wr => ∃ k : Nat, k <= q /\ v = .int .i64 k /\ Hid (Below w.heap.size w wr)) (fun i _ => q - (intOf i).toNat)
 case atStart => exact ⟨0, Nat.zero_le _, rfl, Below.refl _ _⟩
 case round =>
  obtain ⟨k, hk, rfl, HB⟩ := hrel
  by_cases hlt : k < q
  ·have hkL : k < L.length := by rw [HQ.out]; exact hlt
   obtain ⟨b, off, hao, hbl, d0, d1⟩ := HC.out k hkL
   subst hao
   have hbw : Below wr.heap.size wr (wr.alloc (.cells #[.int .i64 L[k].1, .string L[k].2] 63)) := (Below.refl _ _).alloc (Nat.le_refl _) _
   have e0 : wr.cell? ⟨b, off + k * 2, none⟩ = some (.int .i64 L[k].1) := (HB.out.cell (p := ⟨b, off + k * 2, none⟩) hbl).trans d0
   have e1 : wr.cell? ⟨b, off + k * 2 + 1, none⟩ = some (.string L[k].2) := (HB.out.cell (p := ⟨b, off + k * 2 + 1, none⟩) hbl).trans d1
   have HB2 : Hid (Below w.heap.size w (wr.alloc (.cells #[.int .i64 L[k].1, .string L[k].2] 63))) := HB.out.trans (hbw.mono HB.out.size)
   have HS2 := Lib.hid (HSU.out k hkL)
   clear d0 d1 hbw
   generalize L[k] = x at *
   obtain ⟨xb, xd⟩ := x
   dsimp only at e0 e1 HB2 HS2
   by_cases he : xb = i
   ·subst he
    have HV := Lib.hid (HS2.out rfl)
    clear HS2
    go_wp2
    go_ret2
    exact ⟨by rw [HV.out]; rfl, HB2.out⟩
   ·have he' : (xb == i) = false := beq_eq_false_iff_ne.2 he
    clear HS2 he
    go_wp2
    go_roundw
    case rel => exact ⟨k + 1, by omega, by go_num, HB2.out⟩
    case measure => simp [intOf]; omega
  ·have b0 : wr.cell? ⟨h, 0, none⟩ = some (.pointer (some ⟨j, 0, none⟩)) := (HB.out.cell (p := ⟨h, 0, none⟩) hhl).trans c0
   have b1 : wr.cell? ⟨j, 0, none⟩ = some (.pointer (some ⟨p, 0, none⟩)) := (HB.out.cell (p := ⟨j, 0, none⟩) hjl).trans cj
   clear c0 c1 cj
   go_wp2_with fail
   refine (CR.out _ HB.out).mono ?_
   rintro e w1 ⟨rfl, hb1⟩
   have HB1 := Lib.hid (HB.out.trans (hb1.mono HB.out.size)); clear hb1
   go_wp2
   go_ret2
   exact ⟨rfl, HB1.out⟩
set_option maxHeartbeats 2000000 in
theorem hsound_any (m : Hm S SD w h j p n N H sv L J D F G) : Calls Tryz.prog 195 #[.pointer (some ⟨h, 0, none⟩)] w fun e w' => e = .returned (.bool true) /\ Below w.heap.size w w' := by
 have c0 := m.c0; have c1 := m.c1; have c2 := m.c2
 have cj := m.jr.c0
 have hhl := m.hlt
 have hjl := m.jr.lt
 have hfew := m.few
 have CR : Hid (∀ k (hk : k < L.length) W, Below w.heap.size w W -> Calls Tryz.prog 147 #[.pointer (some ⟨p, 0, none⟩), .int .i64 L[k].1] W fun e w' => e = .returned (.tuple #[.string L[k].2, .int .i64 0]) /\ Below W.heap.size W w') := fun k hk W hW => by
  have := read_any L[k].1 (by have := m.pd'; omega) (m.dev.below hW)
  obtain ⟨s1, s2, s3⟩ := m.sure _ (List.getElem_mem hk)
  rw [m.rd _ s1 s2, <- s3] at this; exact this
 have hsl := m.sl
 obtain ⟨ao, c, hv, _⟩ := hsl
 have hsl2 := m.sl
 rw [hv] at hsl2
 have HC := Lib.hid (sl_cells hsl2 rfl)
 rw [hv] at c1
 clear hsl2 m hv
 obtain ⟨q, hq⟩ : ∃ q, L.length = q := ⟨_, rfl⟩
 rw [hq] at c1 hfew
 have HQ := Lib.hid hq
 clear hq
 go_enter Tryz.func195, Tryz.ntmps195
 go_wp2_with fail
 go_loopw [12] (fun v wr => ∃ k : Nat, k <= q /\ v = .int .i64 k /\ Hid (Below w.heap.size w wr)) (fun i _ => q - (intOf i).toNat)
 case atStart => exact ⟨0, Nat.zero_le _, rfl, Below.refl _ _⟩
 case round =>
  obtain ⟨k, hk, rfl, HB⟩ := hrel
  have b0 : wr.cell? ⟨h, 0, none⟩ = some (.pointer (some ⟨j, 0, none⟩)) := (HB.out.cell (p := ⟨h, 0, none⟩) hhl).trans c0
  have b1 : wr.cell? ⟨j, 0, none⟩ = some (.pointer (some ⟨p, 0, none⟩)) := (HB.out.cell (p := ⟨j, 0, none⟩) hjl).trans cj
  have b2 : wr.cell? ⟨h, 2, none⟩ = some (.slice none 0 0) := (HB.out.cell (p := ⟨h, 2, none⟩) hhl).trans c2
  have hbr := HB.out.size
  clear c0 c1 cj c2
  by_cases hlt : k < q
  ·have hkL : k < L.length := by rw [HQ.out]; exact hlt
   obtain ⟨b, off, hao, hbl, d0, d1⟩ := HC.out k hkL
   subst hao
   have hbw : Below wr.heap.size wr (wr.alloc (.cells #[.int .i64 L[k].1, .string L[k].2] 63)) := (Below.refl _ _).alloc (Nat.le_refl _) _
   have e0 : wr.cell? ⟨b, off + k * 2, none⟩ = some (.int .i64 L[k].1) := (HB.out.cell (p := ⟨b, off + k * 2, none⟩) hbl).trans d0
   have e1 : wr.cell? ⟨b, off + k * 2 + 1, none⟩ = some (.string L[k].2) := (HB.out.cell (p := ⟨b, off + k * 2 + 1, none⟩) hbl).trans d1
   have HB2 : Hid (Below w.heap.size w (wr.alloc (.cells #[.int .i64 L[k].1, .string L[k].2] 63))) := HB.out.trans (hbw.mono HB.out.size)
   have CR2 := Lib.hid (CR.out k hkL)
   clear d0 d1
   generalize L[k] = x at *
   obtain ⟨xb, xd⟩ := x
   dsimp only at e0 e1 HB2 CR2 hbw
   obtain ⟨X, hX⟩ : ∃ X, wr.alloc (.cells #[.int .i64 xb, .string xd] 63) = X := ⟨_, rfl⟩
   have x0 : X.cell? ⟨wr.heap.size, 0, none⟩ = some (.int .i64 xb) := by rw [<- hX, cell_at (heap_alloc_new ..)]; rfl
   have x1 : X.cell? ⟨wr.heap.size, 1, none⟩ = some (.string xd) := by rw [<- hX, cell_at (heap_alloc_new ..)]; rfl
   have xh : X.cell? ⟨h, 0, none⟩ = some (.pointer (some ⟨j, 0, none⟩)) := by rw [<- hX]; exact (hbw.cell (p := ⟨h, 0, none⟩) (by show h < _; omega)).trans b0
   have xj : X.cell? ⟨j, 0, none⟩ = some (.pointer (some ⟨p, 0, none⟩)) := by rw [<- hX]; exact (hbw.cell (p := ⟨j, 0, none⟩) (by show j < _; omega)).trans b1
   have hXz : X.heap.size = wr.heap.size + 1 := by rw [<- hX]; simp
   have HBX : Hid (Below w.heap.size w X) := by show Below _ _ _; rw [<- hX]; exact HB2.out
   have HKeep : Hid (∀ W, Below X.heap.size X W -> W.cell? ⟨h, 0, none⟩ = some (.pointer (some ⟨j, 0, none⟩)) /\ W.cell? ⟨j, 0, none⟩ = some (.pointer (some ⟨p, 0, none⟩)) /\ W.cell? ⟨wr.heap.size, 0, none⟩ = some (.int .i64 xb) /\ W.cell? ⟨wr.heap.size, 1, none⟩ = some (.string xd)) := fun W hW =>
    ⟨(hW.cell (p := ⟨h, 0, none⟩) (by show h < _; omega)).trans xh, (hW.cell (p := ⟨j, 0, none⟩) (by show j < _; omega)).trans xj, (hW.cell (p := ⟨wr.heap.size, 0, none⟩) (by show wr.heap.size < _; omega)).trans x0, (hW.cell (p := ⟨wr.heap.size, 1, none⟩) (by show wr.heap.size < _; omega)).trans x1⟩
   have hne : (xd.toList == xd.toList) = true := by simp
   have HX := Lib.hid hX
   clear hX HB2 hbw b0 b1
   go_wp2_with fail
   rw [HX.out]
   go_region_held3 (fun W => W.cell? ⟨h, 0, none⟩ = some (.pointer (some ⟨j, 0, none⟩)) /\ W.cell? ⟨j, 0, none⟩ = some (.pointer (some ⟨p, 0, none⟩)) /\ W.cell? ⟨wr.heap.size, 0, none⟩ = some (.int .i64 xb) /\ W.cell? ⟨wr.heap.size, 1, none⟩ = some (.string xd))
    (first | exact ⟨xh, xj, x0, x1⟩ | exact HKeep.out _ ((Below.refl X.heap.size X).drew.trans (by assumption)))
    (first | (go_at_call 147; refine (CR2.out _ (HBX.out.trans ((Below.refl _ _).drew.mono HBX.out.size))).mono ?_; rintro e w' ⟨rfl, hb3⟩))
   have hbX : Below X.heap.size X w' := (Below.refl X.heap.size X).drew.trans hb3
   obtain ⟨_, _, _, y1⟩ := HKeep.out w' hbX
   have HBn : Hid (Below w.heap.size w w') := HBX.out.trans (hbX.mono HBX.out.size)
   clear hb3 hbX x0 x1 xh xj
   go_wp2
   go_roundw
   case rel => exact ⟨k + 1, by omega, by go_num, HBn.out⟩
   case measure => simp [intOf]; omega
  ·clear b0 b1
   go_wp2
   go_ret
   exact ⟨rfl, HB.out⟩
theorem writes_cells {b off : Nat} (hc : WritesAt w b off M) : ∀ i u, (Fr.flatI M)[i]? = some u -> w.cell? ⟨b, off + i, none⟩ = some u := by
 intro i u hu
 have hi : i < M.length * 2 := by have := (List.getElem?_eq_some_iff.1 hu).1; rwa [Fr.flatI_length] at this
 obtain ⟨k, hk | hk⟩ : ∃ k, i = k * 2 \/ i = k * 2 + 1 := ⟨i / 2, by omega⟩
 ·subst hk
  rw [Fr.flatI_fst M k (by omega)] at hu
  cases hu
  exact (hc k (by omega)).1
 ·subst hk
  rw [Fr.flatI_snd M k (by omega)] at hu
  cases hu
  exact (hc k (by omega)).2
set_option maxHeartbeats 2000000 in
theorem hastold_any (m : Hm S SD w h j p n N H sv L J D F G) (b off c : Nat) (hb : b < w.heap.size) (hc : WritesAt w b off M) (hM : ∀ x ∈ M, 62 <= x.1 /\ x.1 < n) (hl : M.length <= 1000) :
  Calls Tryz.prog 161 #[.pointer (some ⟨h, 0, none⟩), .slice (some ⟨b, off, none⟩) M.length c] w fun e w' => ∃ u, e = .returned u /\ Hid (Below w.heap.size w w') := by
 obtain ⟨i0, hi, hz0, hz1, hz2⟩ := info_parts Tryz.infoW
 have HCl := Lib.hid (Tryz.cloneW i0 _ 2 24 hi hz0 hz1 hz2 rfl (by decide) Tryz.sizeOf63 b off M.length c (Fr.flatI M) w (Fr.flatI_length _) (by unfold maxLen; omega) (by omega) (writes_cells hc) (Fr.flatI_one _))
 clear hi hz0 hz1 hz2
 have CR : Hid (∀ k (hk : k < M.length) W, Below w.heap.size w W -> Calls Tryz.prog 198 #[.pointer (some ⟨h, 0, none⟩), .int .i64 M[k].1] W fun e w' => e = .returned (.tuple #[.string (H M[k].1), .int .i64 0]) /\ Below W.heap.size W w') := fun k hk W hW =>
  hread_any (m.below hW) _ (hM _ (List.getElem_mem hk)).1 (hM _ (List.getElem_mem hk)).2
 have HC := Lib.hid hc
 clear hc m
 obtain ⟨q, hq⟩ : ∃ q, M.length = q := ⟨_, rfl⟩
 rw [hq] at hl HCl ⊢
 have HQ := Lib.hid hq
 clear hq
 go_enter Tryz.func161, Tryz.ntmps161
 go_wp2_with fail
 refine HCl.out.mono ?_
 rintro e w1 ⟨u, rfl, hu1, hu2, hb1⟩
 have HB1 := Lib.hid hb1
 have HO1 : Hid (OwnW w.heap.size w1 u M) := by show w1.ownsRow _ _ _ _ _ _; rw [HQ.out]; exact hu1
 clear hu1 hu2 hb1 HCl
 obtain ⟨uo, uc, hu⟩ : ∃ uo uc, u = .slice uo q uc := by
  obtain ⟨a, cc, e⟩ := own_shape HO1.out
  exact ⟨a, cc, by rw [e, HQ.out]⟩
 subst hu
 go_wp2_with fail
 go_loopw [12] (fun v wr => ∃ (k : Nat) (M' : List Wr), k <= q /\ v = .int .i64 k /\ Hid (M'.length = q) /\ Hid (OwnW w.heap.size wr (.slice uo q uc) M') /\ Hid (Below w.heap.size w wr)) (fun i _ => q - (intOf i).toNat)
 case atStart => exact ⟨0, M, Nat.zero_le _, rfl, HQ.out, HO1.out, HB1.out⟩
 case round =>
  clear HO1 HB1
  obtain ⟨k, M', hk, rfl, HL', HO, HB⟩ := hrel
  by_cases hlt : k < q
  ·have hkL : k < M.length := by rw [HQ.out]; exact hlt
   have hbr := HB.out.size
   have d0 : wr.cell? ⟨b, off + k * 2, none⟩ = some (.int .i64 M[k].1) := (HB.out.cell (p := ⟨b, off + k * 2, none⟩) hb).trans (HC.out k hkL).1
   have d1 : wr.cell? ⟨b, off + k * 2 + 1, none⟩ = some (.string M[k].2) := (HB.out.cell (p := ⟨b, off + k * 2 + 1, none⟩) hb).trans (HC.out k hkL).2
   have CR2 := Lib.hid (CR.out k hkL)
   obtain ⟨g, c', hv, hgc, hgB, hgl, _, hgf⟩ := HO.out.here (by rw [HL'.out]; omega)
   obtain ⟨rfl, rfl⟩ : uo = some ⟨g, 0, none⟩ /\ uc = c' := by
    have := HL'.out
    simp only [Value.slice.injEq] at hv
    exact ⟨hv.1, hv.2.2⟩
   have hgc' : q <= uc := by rw [<- HL'.out]; exact hgc
   clear hv hgc
   generalize M[k] = x at *
   obtain ⟨xb, xd⟩ := x
   dsimp only at d0 d1 CR2
   have hbw : Below wr.heap.size wr (wr.alloc (.cells #[.int .i64 xb, .string xd] 63)) := (Below.refl _ _).alloc (Nat.le_refl _) _
   generalize H xb = V at *
   go_wp2_with fail
   refine (CR2.out _ (HB.out.trans (hbw.mono hbr))).mono ?_
   rintro e w2 ⟨rfl, hb2⟩
   have hbz : wr.heap.size + 1 <= w2.heap.size := by have := hb2.size; simpa using this
   have HB2 : Hid (Below wr.heap.size wr w2) := hbw.trans (hb2.mono (by simp))
   have HO2 : Hid (OwnW w.heap.size w2 (.slice (some ⟨g, 0, none⟩) q uc) M') := HO.out.below HB2.out
   have hf2 : w2.frozen? ⟨g, k * 2 + 1, none⟩ = false := by rw [HB2.out.frozen (p := ⟨g, k * 2 + 1, none⟩) hgl]; exact hgf _
   have hc2 : ∃ vv, w2.cell? ⟨g, k * 2 + 1, none⟩ = some vv := by
    obtain ⟨g', c'', hv', _, _, _, hcs, _⟩ := HO2.out.here (by rw [HL'.out]; omega)
    have : g' = g := by simp only [Value.slice.injEq, Option.some.injEq, Addr.mk.injEq] at hv'; exact hv'.1.1.symm
    subst this
    have := (hcs k (by rw [HL'.out]; exact hlt)).2
    rw [Nat.zero_add] at this
    exact ⟨_, this⟩
   obtain ⟨vv, hcv⟩ := hc2
   have HO3 := Lib.hid (HO2.out.storeN HL'.out k (by rw [HL'.out]; exact hlt) V rfl)
   have HB3 : Hid (Below w.heap.size w (w2.setCell ⟨g, k * 2 + 1, none⟩ (.string V))) := (HB.out.trans (HB2.out.mono hbr)).setCell hgB _
   have HL3 : Hid ((M'.set k (M'[k]'(by rw [HL'.out]; exact hlt) |>.1, V)).length = q) := by show _ = _; rw [List.length_set]; exact HL'.out
   clear hb2 hbw HB2 HO2 HO d0 d1
   go_wp2
   go_roundw
   case rel => exact ⟨k + 1, _, by omega, by go_num, HL3.out, HO3.out, HB3.out⟩
   case measure => simp [intOf]; omega
  ·go_wp2
   go_ret
   exact ⟨_, rfl, HB.out⟩
set_option maxHeartbeats 400000 in
theorem hmend_any (m : Hm S SD w h j p n N H sv L J D F G) : Calls Tryz.prog 160 #[.pointer (some ⟨h, 0, none⟩)] w fun e w' => e = .returned (.int .i64 0) /\ Below w.heap.size w w' := by
 have HS := Lib.hid (hsound_any m)
 clear m
 go_enter Tryz.func160, Tryz.ntmps160
 go_wp2_with fail
 refine HS.out.mono ?_
 rintro e w1 ⟨rfl, hb1⟩
 have HB1 := Lib.hid hb1; clear hb1
 go_wp2
 go_ret
 exact ⟨rfl, HB1.out⟩
theorem Hm.committed (m : Hm S SD w h j p n N H sv L J D F G) {w2 w3 : World} {v : Value} {H' : Int -> ByteArray} (hb : Below w.heap.size w w2) (hs : SlW w v M) (hou : ∀ g off n c, v = .slice (some ⟨g, off, none⟩) n c -> ¬ S g /\ g < w.heap.size)
  (hM : ∀ x ∈ M, 62 <= x.1 /\ x.1 < n /\ x.2.size = 256) (h1 : 1 <= M.length) (h2 : M.length <= 48) (hN : N + 2 <= 10000) (hH : ∀ x ∈ M, x.2 = H' x.1) (hK : ∀ b : Nat, 62 <= b -> b < n -> (∀ x ∈ M, x.1 ≠ b) -> H b = H' b)
  (hv : JLeaves 104 SD w2 w3 j p (J.commit D M).2.1 (J.commit D M).2.2) :
  ∃ S', (∀ k, S' k -> S k \/ (∃ off n c, v = .slice (some ⟨k, off, none⟩) n c) \/ w.heap.size <= k) /\ Home S' (w3.setCell ⟨h, 1, none⟩ v) h p n (N + 2) H' /\ Only S w (w3.setCell ⟨h, 1, none⟩ v) := by
 obtain ⟨SD', g1, g2, g3, g4⟩ := hv
 have hzb := hb.size
 have hz3 := g4.size
 have hc : J.chk n M = 0 := (J.chk_ok n M).2 ⟨h1, h2, fun x hx => ⟨by rw [m.home]; exact (hM x hx).1, (hM x hx).2⟩⟩
 obtain ⟨_, ⟨F', c2⟩, _, c4⟩ := commit_sure m.sy (by omega) hc m.nf
 have hlen := commit_len J D M
 have hpd := m.pd
 have ho2 : Only S w w3 := (Only.of_below S hb (Nat.le_refl _)).trans g4 (fun k hk hh => by rcases hh with hh | hh; exact m.sd k hh; exact hh ▸ m.sj)
 have ho3 : Only (fun k => k = h) w3 (w3.setCell ⟨h, 1, none⟩ v) := (Only.refl (fun k => k = h) w3).setCell (p := ⟨h, 1, none⟩) (fun _ => rfl) v
 have hlh := m.hlt
 have hlj := m.jr.lt
 have hD' : ∀ k, k < w.heap.size -> SD' k -> SD k := fun k hk hd => by
  rcases g1 k hd with h | h
  ·exact h
  ·omega
 have hhh : w3.heap[h]? = w.heap[h]? := by
  rw [g4.block h (by omega) (fun hh => by rcases hh with hh | hh; exact m.dh hh; exact m.hj hh)]
  exact hb.block h hlh
 refine ⟨fun k => S k \/ (∃ off n c, v = .slice (some ⟨k, off, none⟩) n c) \/ SD' k, fun k hk => ?_, ⟨SD', j, v, M, _, _, _, _, ⟨?_, ?_, ?_, ?_, fun k hk => .inr (.inr hk), .inl m.sh, .inl m.sj, fun hh => m.dh (hD' h hlh hh), fun hh => m.dj (hD' j hlj hh), m.hj, fun g off n c hv => ?_, fun k hk => ?_, c2, fun b hb1 hb2 => ?_, fun x hx => ⟨(hM x hx).1, (hM x hx).2.1, hH x hx⟩, h2, by omega, c4, hN⟩⟩, ?_⟩
 ·rcases hk with hk | hk | hk
  ·exact .inl hk
  ·exact .inr (.inl hk)
  ·rcases g1 k hk with h | h
   ·exact .inl (m.sd k h)
   ·exact .inr (.inr (by omega))
 ·rw [heap_setCell_at (hhh.trans m.hh)]; rfl
 ·exact g3.only ho3 (fun e => m.hj e.symm)
 ·exact g2.kept ho3 (fun k hk e => m.dh (hD' h hlh (e ▸ hk)))
 ·exact SlW.only (SlW.only hs ho2 (fun g off n c hv hg => (hou g off n c hv).1 hg)) ho3 (fun g off n c hv e => (hou g off n c hv).1 (e ▸ m.sh))
 ·obtain ⟨o1, o2⟩ := hou g off n c hv
  exact ⟨.inr (.inl ⟨off, n, c, hv⟩), fun hd => o1 (m.sd g (hD' g o2 hd)), fun e => o1 (e ▸ m.sh), fun e => o1 (e ▸ m.sj)⟩
 ·have hz : (w3.setCell ⟨h, 1, none⟩ v).heap.size = w3.heap.size := by simp [World.setCell]
  rw [hz]
  rcases hk with hk | ⟨off, nn, c, hk⟩ | hk
  ·have := m.lt k hk; omega
  ·have := (hou k off nn c hk).2; omega
  ·exact g2.lt k hk
 ·refine put_is (fun x hx => ⟨by have := (hM x hx).1; omega, hH x hx⟩) fun hno => ?_
  rw [m.gh b hb1 hb2]; exact hK b hb1 hb2 hno
 ·exact ho2.setCell (fun _ => m.sh) _
set_option maxHeartbeats 2000000 in
theorem hcommit_any (m : Hm S SD w h j p n N H sv L J D F G) {v : Value} {H' : Int -> ByteArray} (hs : SlW w v M) (hou : ∀ g off n c, v = .slice (some ⟨g, off, none⟩) n c -> ¬ S g /\ g < w.heap.size)
  (hM : ∀ x ∈ M, 62 <= x.1 /\ x.1 < n /\ x.2.size = 256) (h1 : 1 <= M.length) (h2 : M.length <= 48) (hN : N + 2 <= 10000) (hH : ∀ x ∈ M, x.2 = H' x.1) (hK : ∀ b : Nat, 62 <= b -> b < n -> (∀ x ∈ M, x.1 ≠ b) -> H b = H' b) :
  Calls Tryz.prog 101 #[.pointer (some ⟨h, 0, none⟩), v] w fun e w' => e = .returned (.int .i64 0) /\ ∃ S', (∀ k, S' k -> S k \/ (∃ off n c, v = .slice (some ⟨k, off, none⟩) n c) \/ w.heap.size <= k) /\ Home S' w' h p n (N + 2) H' /\ Only S w w' := by
 have c0 := m.c0
 have hhl := m.hlt
 have hfh := m.f 1
 have hc1 := m.c1
 have HM1 := Lib.hid (hmend_any m)
 obtain ⟨b, off, c, rfl, _, hbl, hcs⟩ := hs.here (by omega)
 have HT : Hid (∀ W, Below w.heap.size w W -> Calls Tryz.prog 161 #[.pointer (some ⟨h, 0, none⟩), .slice (some ⟨b, off, none⟩) M.length c] W fun e w' => ∃ u, e = .returned u /\ Hid (Below W.heap.size W w')) := fun W hW =>
  hastold_any (m.below hW) b off c (Nat.lt_of_lt_of_le hbl hW.size) (hcs.below hW hbl) (fun x hx => ⟨(hM x hx).1, (hM x hx).2.1⟩) (by omega)
 have hc : J.chk n M = 0 := (J.chk_ok n M).2 ⟨h1, h2, fun x hx => ⟨by rw [m.home]; exact (hM x hx).1, (hM x hx).2⟩⟩
 obtain ⟨ce, _, _, _⟩ := commit_sure m.sy (by omega) hc m.nf
 obtain ⟨hnb, hlb⟩ := hou b off _ c rfl
 have HC : Hid (∀ W, Below w.heap.size w W -> Calls Tryz.prog 73 #[.pointer (some ⟨j, 0, none⟩), .slice (some ⟨b, off, none⟩) M.length c] W fun e w' => e = .returned (.int .i64 0) /\ JLeaves 104 SD W w' j p (J.commit D M).2.1 (J.commit D M).2.2) := fun W hW => by
  have := commit_any (w := W) (L := M) (m.jr.below hW) (m.dev.below hW) m.dj (by rw [m.len]; exact m.sy.pre.good.ok) (by have := m.pd'; omega) (by omega) (fun x hx => by rw [(hM x hx).2.2]; unfold maxLen; omega) (hs.below hW)
   (fun g o n c hv hg => by cases hv; exact hnb (m.sd _ hg)) ⟨fun g o n c hv => by cases hv; exact Nat.lt_of_lt_of_le hbl hW.size, fun g o n c hv => by cases hv; exact fun e => hnb (e ▸ m.sj)⟩
  rw [ce] at this
  exact this
 have HF : Hid (∀ W W', Below w.heap.size w W -> JLeaves 104 SD W W' j p (J.commit D M).2.1 (J.commit D M).2.2 -> (W'.cell? ⟨h, 1, none⟩ = some sv /\ W'.frozen? ⟨h, 1, none⟩ = false) /\ ∃ S', (∀ k, S' k -> S k \/ (∃ o n d, Value.slice (some ⟨b, off, none⟩) M.length c = .slice (some ⟨k, o, none⟩) n d) \/ w.heap.size <= k) /\ Home S' (W'.setCell ⟨h, 1, none⟩ (.slice (some ⟨b, off, none⟩) M.length c)) h p n (N + 2) H' /\ Only S w (W'.setCell ⟨h, 1, none⟩ (.slice (some ⟨b, off, none⟩) M.length c))) := fun W W' hW hv => by
  refine ⟨?_, m.committed hW hs hou hM h1 h2 hN hH hK hv⟩
  obtain ⟨SD', g1, g2, g3, g4⟩ := hv
  have hbk : W'.heap[h]? = w.heap[h]? := by
   rw [g4.block h (Nat.lt_of_lt_of_le hhl hW.size) (fun hh => by rcases hh with hh | hh; exact m.dh hh; exact m.hj hh)]
   exact hW.block h hhl
  exact ⟨(World.cell?_of_block hbk).trans m.c1, by rw [show W'.frozen? ⟨h, 1, none⟩ = w.frozen? ⟨h, 1, none⟩ by simp [World.frozen?, hbk]]; exact m.f 1⟩
 clear m hs hou hM hH hK hc ce hcs hc1 hfh
 generalize (J.commit D M).2.1 = D2 at *
 generalize (J.commit D M).2.2 = J2 at *
 generalize M.length = q at *
 go_enter Tryz.func101, Tryz.ntmps101
 go_wp2_with fail
 refine HM1.out.mono ?_
 rintro e w1 ⟨rfl, hb1⟩
 have HB1 := Lib.hid hb1; clear hb1
 go_wp2_with fail
 refine (HT.out _ HB1.out).mono ?_
 rintro e w2 ⟨u, rfl, HB2'⟩
 have HB2 := Lib.hid (HB1.out.trans (HB2'.out.mono HB1.out.size))
 have e0 : w2.cell? ⟨h, 0, none⟩ = some (.pointer (some ⟨j, 0, none⟩)) := (HB2.out.cell (p := ⟨h, 0, none⟩) hhl).trans c0
 clear HB2' HB1 c0
 go_wp2_with fail
 refine (HC.out _ HB2.out).mono ?_
 rintro e w3 ⟨rfl, hv⟩
 obtain ⟨⟨hc1, hf1⟩, hF⟩ := HF.out _ _ HB2.out hv
 have HFF := Lib.hid hF
 clear hv hF HF HC e0
 go_wp2
 go_ret
 exact ⟨rfl, HFF.out⟩
end
end Go.Proofs.YthambopnmhkeeaaGreat
/- What Format makes of a new device, in plain lists. -/
namespace Go.Proofs.YthambopnmhkeeaaGreat
open Go.RowKit
open Bm
def labelL (n : Nat) : List UInt8 := [67, 68, 88, 66] ++ (Fr.fixL n ++ List.replicate 248 0)
def labelB (n : Nat) : ByteArray := Fr.bs (labelL n)
theorem labelB_size (n : Nat) : (labelB n).size = 256 := by
 unfold labelB labelL
 rw [Fr.bs_len]
 simp only [List.length_append, Fr.fixL_len, List.length_replicate, List.length_cons, List.length_nil]
def mapWr (n : Nat) (l : List UInt8) : List Wr := (List.range (nbM n)).map fun k => (((63 + k : Nat) : Int), txt (blkM l k))
def fmtW (n : Nat) : List Wr := ((62 : Int), labelB n) :: mapWr n (TS.emptyM n)
def H0 (n : Nat) : Int -> ByteArray := fun i => if i = 62 then labelB n else if 63 <= i /\ i < firstD n then txt (blkM (TS.emptyM n) (i - 63).toNat) else noughts
theorem txt_size (l : List UInt8) : (txt l).size = l.length := by unfold txt; show l.toArray.size = _; rw [List.size_toArray]
theorem txt_data (l : List UInt8) : (txt l).data.toList = l := rfl
theorem H0_size (n : Nat) (i : Int) : (H0 n i).size = 256 := by
 unfold H0
 split
 ·exact labelB_size n
 ·split
  ·rename_i h
   rw [txt_size]
   exact blk_len (TS.empty_len n) (by unfold firstD at h; omega)
  ·exact noughts_size
theorem mapWr_mem {n : Nat} {l : List UInt8} {x : Wr} (h : x ∈ mapWr n l) : ∃ k, k < nbM n /\ x = (((63 + k : Nat) : Int), txt (blkM l k)) := by
 obtain ⟨k, hk, rfl⟩ := List.mem_map.1 h
 exact ⟨k, List.mem_range.1 hk, rfl⟩
theorem fmtW_mem {n : Nat} (hn : 128 <= n) {x : Wr} (h : x ∈ fmtW n) : 62 <= x.1 /\ x.1 < n /\ x.2.size = 256 /\ x.2 = H0 n x.1 := by
 rcases List.mem_cons.1 h with rfl | h
 ·exact ⟨by omega, by dsimp only; omega, labelB_size n, by unfold H0; rw [if_pos rfl]⟩
 ·obtain ⟨k, hk, rfl⟩ := mapWr_mem h
  have hnb : nbM n = (n + 2047) / 2048 := rfl
  refine ⟨by dsimp only; omega, by dsimp only; omega, by dsimp only; rw [txt_size]; exact blk_len (TS.empty_len n) hk, ?_⟩
  unfold H0 firstD
  dsimp only
  rw [if_neg (by omega), if_pos (by omega)]
  congr 3
  omega
theorem fmtW_len (n : Nat) : (fmtW n).length = nbM n + 1 := by unfold fmtW mapWr; simp
theorem fmtW_all {n : Nat} {b : Nat} (h : ∀ x ∈ fmtW n, x.1 ≠ b) : noughts = H0 n b := by
 have h1 : (b : Int) ≠ 62 := fun e => h _ (List.mem_cons_self ..) e.symm
 unfold H0
 rw [if_neg h1]
 split
 ·rename_i hb
  exfalso
  refine h (((63 + (b - 63) : Nat) : Int), txt (blkM (TS.emptyM n) (b - 63))) (List.mem_cons_of_mem _ (List.mem_map.2 ⟨b - 63, List.mem_range.2 (by unfold firstD at hb; omega), rfl⟩)) ?_
  dsimp only; omega
 ·rfl
theorem H0_map (n : Nat) : mapT n (H0 n) = TS.emptyM n := by
 refine mapT_of _ _ _ (TS.empty_len n) fun k hk => ?_
 unfold H0
 rw [if_neg (by omega), if_pos (by unfold firstD; omega)]
 rw [txt_data]
 congr 1
 omega
theorem formed (n : Nat) (h1 : 128 <= n) (h2 : n <= 4096) : ∃ DF DO DC J2 F G, (DevS.made n).fmt 60 = (0, DF) /\ DF.pend = [] /\ DF.opn = (0, DO, some Jb) /\ DO.pend = [] /\ Jb.Ok DO.disk.length /\ Jb.commit DO (fmtW n) = (0, DC, J2) /\ Sync 4 n J2 DC G F /\
  (∀ b : Nat, 62 <= b -> b < n -> G b = H0 n b) /\ DC.fused = false /\ DC.pend.length <= 200 := by
 obtain ⟨f1, f2, _, _, _, _⟩ := fmt_rec n (by omega) h2
 obtain ⟨s1, s2, s3, s4⟩ := begin_sync n (by omega) h2
 have hhome : Jb.home = 62 := rfl
 have hnb : nbM n = (n + 2047) / 2048 := rfl
 have hc : Jb.chk n (fmtW n) = 0 := (Jb.chk_ok n _).2 ⟨by rw [fmtW_len]; omega, by rw [fmtW_len]; omega, fun x hx => by
  obtain ⟨g1, g2, g3, _⟩ := fmtW_mem h1 hx
  exact ⟨by rw [hhome]; exact g1, g2, g3⟩⟩
 obtain ⟨c1, ⟨F', c2⟩, _, c4⟩ := commit_sure s2 (by omega) hc s4
 refine ⟨((DevS.made n).fmt 60).2, Db n, (Jb.commit (Db n) (fmtW n)).2.1, (Jb.commit (Db n) (fmtW n)).2.2, _, _, Prod.ext f1 rfl, f2, s1, s3, by rw [s2.pre.len]; exact s2.pre.good.ok, Prod.ext c1 (Prod.ext rfl rfl), c2, fun b hb hbn => ?_, c4, ?_⟩
 ·refine put_is (fun x hx => ?_) fun h => fmtW_all h
  obtain ⟨g1, _, _, g4⟩ := fmtW_mem h1 hx
  exact ⟨by omega, g4⟩
 ·have := commit_len Jb (Db n) (fmtW n)
  rw [s3, fmtW_len] at this
  simp only [List.length_nil] at this
  omega
end Go.Proofs.YthambopnmhkeeaaGreat
/- The document's own journal: what Text, long, read, place and Home answer: the same. -/
set_option maxRecDepth 100000
namespace Go.Proofs.YthambopnmhkeeaaGreat
open Go.RowKit
open Fr (bs fixL nmAt fix_name fixed_to rfixed_to bs_append bs_len rtoFixed_at or64 nmAt_lt bs_data str_len bs_ext)
set_option maxHeartbeats 2000000 in
theorem vtext_any (e s log p : Nat) (w : World) (he : e < 18446744073709551616) (hs : s < 18446744073709551616) (hl : log <= 4096) (hp : p <= 4096) :
  Calls Tryz.prog 136 #[.agg #[.int .u64 (e : Int), .int .u64 (s : Int), .int .i64 (log : Int), .int .i64 (p : Int)]] w fun r w' => r = .returned (.string (slotB e s log p)) /\ Below w.heap.size w w' := by
 obtain ⟨i0, hi, hz0, hz1, hz2⟩ := info_parts Tryz.infoB
 have HZ2 := Lib.hid hz2; clear hz2
 obtain ⟨FT, hFT⟩ : ∃ f : Int -> ByteArray, f = fun v => bs (fixL v.toNat) := ⟨_, rfl⟩
 have CF : Hid (∀ (x : Int) (W : World), 0 <= x -> x < 4294967296 -> Calls Tryz.prog 143 #[.int .u32 x] W fun r w' => r = .returned (.string (FT x)) /\ Below W.heap.size W w') := fun x W h0 h1 => rfixed_to x x.toNat _ W (by omega) (by omega) (by rw [hFT]; rfl)
 obtain ⟨w0, hw0⟩ : ∃ w0, w.alloc (.cells #[.int .u64 (e : Int), .int .u64 (s : Int), .int .i64 (log : Int), .int .i64 (p : Int)] 134) = w0 := ⟨_, rfl⟩
 have hb0 : w0.heap[w.heap.size]? = some (.cells #[.int .u64 (e : Int), .int .u64 (s : Int), .int .i64 (log : Int), .int .i64 (p : Int)] 134 (0, 0)) := by rw [<- hw0, heap_alloc_new]
 have HB0 : Hid (Below w.heap.size w w0) := by rw [<- hw0]; exact (Below.refl _ _).alloc (Nat.le_refl _) _
 have c0 : w0.cell? ⟨w.heap.size, 0, none⟩ = some (.int .u64 (e : Int)) := by rw [cell_at hb0]; rfl
 have c1 : w0.cell? ⟨w.heap.size, 1, none⟩ = some (.int .u64 (s : Int)) := by rw [cell_at hb0]; rfl
 have c2 : w0.cell? ⟨w.heap.size, 2, none⟩ = some (.int .i64 (log : Int)) := by rw [cell_at hb0]; rfl
 have c3 : w0.cell? ⟨w.heap.size, 3, none⟩ = some (.int .i64 (p : Int)) := by rw [cell_at hb0]; rfl
 have hlt : w.heap.size < w0.heap.size := (Array.getElem?_eq_some_iff.1 hb0).1
 clear hb0
 have HW0 := Lib.hid hw0; clear hw0
 obtain ⟨e0, he0⟩ : ∃ x : Nat, e % 4294967296 = x := ⟨_, rfl⟩
 obtain ⟨s0, hs0⟩ : ∃ x : Nat, s % 4294967296 = x := ⟨_, rfl⟩
 obtain ⟨e1, he1⟩ : ∃ x : Nat, e / 4294967296 = x := ⟨_, rfl⟩
 obtain ⟨s1, hs1⟩ : ∃ x : Nat, s / 4294967296 = x := ⟨_, rfl⟩
 have l0 : e0 < 4294967296 := by omega
 have l1 : s0 < 4294967296 := by omega
 have l2 : e1 < 4294967296 := by omega
 have l3 : s1 < 4294967296 := by omega
 have t0 : (e : Int).tmod 4294967296 = (e0 : Int) := by rw [Int.tmod_eq_emod_of_nonneg (by omega)]; omega
 have t1 : (s : Int).tmod 4294967296 = (s0 : Int) := by rw [Int.tmod_eq_emod_of_nonneg (by omega)]; omega
 have t2 : (e : Int) / 4294967296 = (e1 : Int) := by omega
 have t3 : (s : Int) / 4294967296 = (s1 : Int) := by omega
 have u0 : IntKind.u32.wrap (e0 : Int) = (e0 : Int) := u32_in _ (by omega)
 have u1 : IntKind.u32.wrap (s0 : Int) = (s0 : Int) := u32_in _ (by omega)
 have u2 : IntKind.u32.wrap (e1 : Int) = (e1 : Int) := u32_in _ (by omega)
 have u3 : IntKind.u32.wrap (s1 : Int) = (s1 : Int) := u32_in _ (by omega)
 have u4 : IntKind.u32.wrap (log : Int) = (log : Int) := u32_in _ (by omega)
 have u5 : IntKind.u32.wrap (p : Int) = (p : Int) := u32_in _ (by omega)
 have z0 : (FT (e0 : Int)).size <= 4 := by rw [hFT]; exact Nat.le_refl _
 have z1 : (FT (e1 : Int)).size <= 4 := by rw [hFT]; exact Nat.le_refl _
 have z2 : (FT (s0 : Int)).size <= 4 := by rw [hFT]; exact Nat.le_refl _
 have z3 : (FT (s1 : Int)).size <= 4 := by rw [hFT]; exact Nat.le_refl _
 have z4 : (FT (log : Int)).size <= 4 := by rw [hFT]; exact Nat.le_refl _
 have z5 : (FT (p : Int)).size <= 4 := by rw [hFT]; exact Nat.le_refl _
 have b1 : ¬ 9223372036854775807 < 4 + (FT (e0 : Int)).size := by omega
 have b2 : ¬ 9223372036854775807 < 4 + (FT (e0 : Int)).size + (FT (e1 : Int)).size := by omega
 have b3 : ¬ 9223372036854775807 < 4 + (FT (e0 : Int)).size + (FT (e1 : Int)).size + (FT (s0 : Int)).size := by omega
 have b4 : ¬ 9223372036854775807 < 4 + (FT (e0 : Int)).size + (FT (e1 : Int)).size + (FT (s0 : Int)).size + (FT (s1 : Int)).size := by omega
 have b5 : ¬ 9223372036854775807 < 4 + (FT (e0 : Int)).size + (FT (e1 : Int)).size + (FT (s0 : Int)).size + (FT (s1 : Int)).size + (FT (log : Int)).size := by omega
 have b6 : ¬ 9223372036854775807 < 4 + (FT (e0 : Int)).size + (FT (e1 : Int)).size + (FT (s0 : Int)).size + (FT (s1 : Int)).size + (FT (log : Int)).size + (FT (p : Int)).size := by omega
 obtain ⟨X, hX⟩ : ∃ X, ⟨#[67, 68, 88, 83]⟩ ++ FT (e0 : Int) ++ FT (e1 : Int) ++ FT (s0 : Int) ++ FT (s1 : Int) ++ FT (log : Int) ++ FT (p : Int) = X := ⟨_, rfl⟩
 have hXe : X = bs ([67, 68, 88, 83] ++ wideL e ++ wideL s ++ fixL log ++ fixL p) := by
  rw [<- hX, hFT]
  show ((((((bs [67, 68, 88, 83] ++ bs (fixL e0)) ++ bs (fixL e1)) ++ bs (fixL s0)) ++ bs (fixL s1)) ++ bs (fixL log)) ++ bs (fixL p)) = _
  unfold wideL
  rw [he0, he1, hs0, hs1, bs_append, bs_append, bs_append, bs_append, bs_append, bs_append]
  simp only [List.append_assoc]
 have zX : X.size = 28 := by rw [hXe, bs_len]; rfl
 obtain ⟨Z, hZ⟩ : ∃ Z, bs (List.replicate 100 0) = Z := ⟨_, rfl⟩
 have zZ : Z.size <= 100 := by rw [<- hZ, bs_len, List.length_replicate]; exact Nat.le_refl _
 have HF : Hid ((X ++ Z) ++ (X ++ Z) = slotB e s log p) := by
  show _ = _
  unfold slotB
  rw [half_parts, hXe, <- hZ, bs_append, bs_append]
 have HFT := Lib.hid hFT
 have x0 : X.size <= 28 := by omega
 have x1 : 28 <= X.size := by omega
 clear hXe zX hFT
 have HZ := Lib.hid hZ
 have HX := Lib.hid hX
 clear hZ hX
 have HE := Lib.hid (And.intro (And.intro he0 he1) (And.intro hs0 hs1))
 clear he0 he1 hs0 hs1
 go_enter Tryz.func136, Tryz.ntmps136
 go_wp2_with fail
 rw [HW0.out]
 go_region_held3 (fun W => Below w0.heap.size w0 W /\ W.cell? ⟨w.heap.size, 0, none⟩ = some (.int .u64 (e : Int)) /\ W.cell? ⟨w.heap.size, 1, none⟩ = some (.int .u64 (s : Int)) /\ W.cell? ⟨w.heap.size, 2, none⟩ = some (.int .i64 (log : Int)) /\ W.cell? ⟨w.heap.size, 3, none⟩ = some (.int .i64 (p : Int)))
  (first | exact ⟨(Below.refl _ _).drew, c0, c1, c2, c3⟩ | exact held_four hlt (by assumption) (by assumption) | exact held_four hlt (by assumption) (Below.refl _ _))
  (first
   | (go_at_call 143; refine (CF.out _ _ ?_ ?_).mono ?_; omega; omega; rintro r w' ⟨rfl, hbx⟩)
   | (go_at_call 143; trace_state; fail))
 rw [HX.out]
 rename_i hHeld
 have HB1 : Hid (Below w.heap.size w w') := HB0.out.trans (hHeld.1.mono (Nat.le_of_lt hlt))
 clear hHeld hbx b1 b2 b3 b4 b5 b6 t0 t1 t2 t3 u0 u1 u2 u3 u4 u5 c0 c1 c2 c3 z0 z1 z2 z3 z4 z5
 have hmT : 128 - (X.size : Int) = ((100 : Nat) : Int) := by omega
 have HMT := Lib.hid hmT; clear hmT
 go_wp2_with (at_make; refine wpList_make_full _ rfl _ _ 107 rfl w'.heap.size 5 i0 (.int .u8 0) 1 Tryz.underlying107 hi hz0 hz1 _ _ _ _ 100 rfl rfl HMT.out HMT.out (by rw [HZ2.out]; omega) (by unfold maxLen; omega) (Nat.le_refl _) ?_)
 intro w1 hown hgrow
 rw [toList_madeCells_one] at hown
 have hconv := Fr.zero_text hown
 have HB2 : Hid (Below w.heap.size w w1) := HB1.out.grown hgrow HB1.out.size (fun k h => by cases h)
 clear hown hgrow HB1
 rw [HZ.out] at hconv
 go_wp2
 go_ret
 exact ⟨by rw [<- HF.out]; rfl, HB2.out⟩
theorem ext_drop (l : List UInt8) (k m : Nat) (T : ByteArray) (h : T = bs (l.drop k)) : T.extract m T.size = bs (l.drop (k + m)) := by
 have e : T.data.toList = l.drop k := by rw [h]; simp [bs]
 rw [Fr.ext_eq T (l.drop k) e, List.drop_drop]
set_option maxHeartbeats 1000000 in
theorem rtoFixed_quiet (s : ByteArray) (w : World) (h4 : 4 <= s.size) (hs : s.size <= maxLen) :
  Calls Tryz.prog 179 #[.string s] w fun e w' => e = .returned (.tuple #[.int .u32 ((Fr.unfix s[0] s[1] s[2] s[3] : Nat) : Int), .string (s.extract 4 s.size), .bool true]) /\ w' = w.drew := by
 unfold maxLen at hs
 have i0 : 0 < s.size := by omega
 have i1 : 1 < s.size := by omega
 have i2 : 2 < s.size := by omega
 have i3 : 3 < s.size := by omega
 have j1 : (1 : Int) < (s.size : Int) := by omega
 have j2 : (2 : Int) < (s.size : Int) := by omega
 have j3 : (3 : Int) < (s.size : Int) := by omega
 have j4 : (4 : Int) <= (s.size : Int) := by omega
 go_enter Tryz.func179, Tryz.ntmps179
 go_wp2
 go_region
 go_wp2
 go_ret3
 exact ⟨Fr.tup3 _ _ _ (Fr.sum4 s[0] s[1] s[2] s[3]), rfl⟩
theorem rtoFixed_qat {T R : ByteArray} {q : List UInt8} {k : Nat} (w : World) (hT : T = bs (q.drop k)) (hR : R = bs (q.drop (k + 4))) (h4 : k + 4 <= q.length) (hs : q.length <= 10000) :
  Calls Tryz.prog 179 #[.string T] w fun e w' => e = .returned (.tuple #[.int .u32 ((nmAt q k : Nat) : Int), .string R, .bool true]) /\ w' = w.drew := by
 have zT : T.size = q.length - k := by rw [hT, bs_len, List.length_drop]
 refine (rtoFixed_quiet T w (by omega) (by unfold maxLen; omega)).mono fun e w' ⟨he, hb⟩ => ⟨?_, hb⟩
 have e0 (j : Nat) (hj : j < T.size) : T[j]'hj = q.getD (k + j) 0 := by
  subst hT
  have h1 : k + j < q.length := by omega
  have h2 : (bs (q.drop k))[j]'hj = (q.drop k)[j]'(by rw [List.length_drop]; omega) := rfl
  rw [h2, List.getElem_drop]
  simp [List.getD, h1]
 rw [he, e0 0 (by omega), e0 1 (by omega), e0 2 (by omega), e0 3 (by omega), ext_drop q k 4 T hT, <- hR]
 rfl
set_option maxHeartbeats 1000000 in
theorem vlong_any (l : List UInt8) (k : Nat) (T : ByteArray) (w : World) (hl : k + 8 <= l.length) (hm : l.length <= 1000) (h1 : T = bs (l.drop k)) :
  Calls Tryz.prog 180 #[.string T] w fun e w' => e = .returned (.int .u64 ((wideAt l k : Nat) : Int)) /\ w' = w.drew.drew := by
 obtain ⟨T3, HT3⟩ : ∃ T3, Hid (T3 = bs (l.drop (k + 4))) := ⟨_, rfl⟩
 obtain ⟨T4, HT4⟩ : ∃ T4, Hid (T4 = bs (l.drop (k + 4 + 4))) := ⟨_, rfl⟩
 have F1 := Lib.hid (fun W => rtoFixed_qat W h1 HT3.out (by omega) (by omega))
 have F2 := Lib.hid (fun W => rtoFixed_qat W HT3.out HT4.out (by omega) (by omega))
 have hex : T.extract 4 T.size = T3 := by rw [HT3.out]; exact ext_drop l k 4 T h1
 have zT : T.size = l.length - k := by rw [h1, bs_len, List.length_drop]
 have z1 : (4 : Int) <= (T.size : Int) := by omega
 have x1 := nmAt_lt l k
 have x2 := nmAt_lt l (k + 4)
 have HW : Hid ((nmAt l (k + 4) : Int) * 4294967296 + (nmAt l k : Int) = ((wideAt l k : Nat) : Int)) := by show _ = _; unfold wideAt; omega
 clear h1 zT
 generalize wideAt l k = wd at *
 generalize nmAt l k = lo at *
 generalize nmAt l (k + 4) = hi at *
 go_enter Tryz.func180, Tryz.ntmps180
 go_wp2_with fail
 refine (F1.out _).mono ?_
 rintro e w2 ⟨rfl, rfl⟩
 go_wp2_with fail
 refine (F2.out _).mono ?_
 rintro e w3 ⟨rfl, rfl⟩
 go_wp2
 go_ret
 exact ⟨by rw [<- HW.out]; rfl, rfl⟩
theorem keep_call {w W W' : World} (h : Below w.heap.size w W) (hb : Below W.heap.size W W') : Below w.heap.size w W' := h.trans (hb.mono h.size)
theorem wide_drop (l : List UInt8) (k : Nat) : wideAt (l.drop k) 0 = wideAt l k := by
 unfold wideAt
 rw [Fr.nmAt_drop, Fr.nmAt_drop]
 rfl
theorem results_vslot (tmps : Array Value) (g : Nat) (Y : World) (b : Bool) (x0 x1 x2 x3 : Int) (h4 : tmps.getD 4 undef = .pointer (some ⟨g, 0, none⟩)) (h5 : tmps.getD 5 undef = .bool b)
  (hY : Y.heap[g]? = some (.cells #[.int .u64 x0, .int .u64 x1, .int .i64 x2, .int .i64 x3] 134 (0, 0))) :
  (results Tryz.f139 tmps).run Tryz.prog Y = .ok (.tuple #[.agg #[.int .u64 x0, .int .u64 x1, .int .i64 x2, .int .i64 x3], .bool b]) Y := by
 have y0 : Y.cell? ⟨g, 0, none⟩ = some (.int .u64 x0) := by rw [cell_at hY]; rfl
 have y1 : Y.cell? ⟨g, 1, none⟩ = some (.int .u64 x1) := by rw [cell_at hY]; rfl
 have y2 : Y.cell? ⟨g, 2, none⟩ = some (.int .i64 x2) := by rw [cell_at hY]; rfl
 have y3 : Y.cell? ⟨g, 3, none⟩ = some (.int .i64 x3) := by rw [cell_at hY]; rfl
 rw [Array.getD_eq_getD_getElem?] at h4 h5
 simp [results, Tryz.results139, go_sem, h4, h5, y0, y1, y2, y3]
def VRead (w : World) (x : Option (Nat × Nat × Nat × Nat)) (e : Ending) (w' : World) : Prop :=
 ∃ x0 x1 x2 x3 : Int, ∃ b : Bool, e = .returned (.tuple #[.agg #[.int .u64 x0, .int .u64 x1, .int .i64 x2, .int .i64 x3], .bool b]) /\ Below w.heap.size w w' /\
  ((x = none /\ b = false) \/ (∃ y, x = some y /\ b = true /\ x0 = (y.1 : Int) /\ x1 = (y.2.1 : Int) /\ x2 = (y.2.2.1 : Int) /\ x3 = (y.2.2.2 : Int)))
set_option maxHeartbeats 2000000 in
theorem vread_any (t : ByteArray) (n : Nat) (w : World) (ht : t.size = 256) (hn : n <= 4096) :
  Calls Tryz.prog 139 #[.string t, .int .i64 (n : Int)] w fun e w' => VRead w (rdSlot t n) e w' := by
 obtain ⟨l, hl⟩ : ∃ l, t.data.toList = l := ⟨_, rfl⟩
 have hll : l.length = 256 := by rw [<- hl, str_len, ht]
 have HI := Lib.hid (rdSlot_iff t n)
 rw [hl] at HI
 obtain ⟨T4, h4⟩ : ∃ T, t.extract 4 t.size = T := ⟨_, rfl⟩
 obtain ⟨T12, h12⟩ : ∃ T, t.extract 12 t.size = T := ⟨_, rfl⟩
 obtain ⟨T20, h20⟩ : ∃ T, t.extract 20 t.size = T := ⟨_, rfl⟩
 obtain ⟨T24, h24⟩ : ∃ T, t.extract 24 t.size = T := ⟨_, rfl⟩
 have e4 : T4 = bs (l.drop 4) := by rw [<- h4, Fr.ext_eq t l hl]
 have e12 : T12 = bs (l.drop 12) := by rw [<- h12, Fr.ext_eq t l hl]
 have e20 : T20 = bs (l.drop 20) := by rw [<- h20, Fr.ext_eq t l hl]
 have e24 : T24 = bs (l.drop 24) := by rw [<- h24, Fr.ext_eq t l hl]
 obtain ⟨T28, e28⟩ : ∃ T, T = bs (l.drop 28) := ⟨_, rfl⟩
 have F3 := Lib.hid (fun W => rtoFixed_at (k := 20) W e20 e24 (by omega) (by omega))
 have F4 := Lib.hid (fun W => rtoFixed_at (k := 24) W e24 e28 (by omega) (by omega))
 obtain ⟨LG, g4, g12, CL⟩ : ∃ LG : ByteArray -> Int, LG T4 = ((wideAt l 4 : Nat) : Int) /\ LG T12 = ((wideAt l 12 : Nat) : Int) /\ Hid (∀ (T : ByteArray) (W : World), T = T4 \/ T = T12 -> Calls Tryz.prog 180 #[.string T] W fun r w' => r = .returned (.int .u64 (LG T)) /\ w' = W.drew.drew) := by
  refine ⟨fun T => ((wideAt (T.data.toList) 0 : Nat) : Int), ?_, ?_, ?_⟩
  ·show ((wideAt T4.data.toList 0 : Nat) : Int) = _
   rw [show T4.data.toList = l.drop 4 by rw [e4]; simp [bs], wide_drop]
  ·show ((wideAt T12.data.toList 0 : Nat) : Int) = _
   rw [show T12.data.toList = l.drop 12 by rw [e12]; simp [bs], wide_drop]
  ·rintro T W (rfl | rfl)
   ·exact vlong_any T.data.toList 0 T W (by rw [e4]; simp [bs]; omega) (by rw [e4]; simp [bs]; omega) (by rw [List.drop_zero, bs_data])
   ·exact vlong_any T.data.toList 0 T W (by rw [e12]; simp [bs]; omega) (by rw [e12]; simp [bs]; omega) (by rw [List.drop_zero, bs_data])
 have x4 := wideAt_lt l 4; have x12 := wideAt_lt l 12; have x20 := nmAt_lt l 20; have x24 := nmAt_lt l 24
 clear e4 e12 e20 e24 e28 hl hll
 generalize wideAt l 4 = e at *
 generalize wideAt l 12 = s at *
 generalize nmAt l 20 = log at *
 generalize nmAt l 24 = p at *
 have i20 : (20 : Int) <= (t.size : Int) := by omega
 have i24 : (24 : Int) <= (t.size : Int) := by omega
 have i4 : (4 : Int) <= (t.size : Int) := by omega
 have i12 : (12 : Int) <= (t.size : Int) := by omega
 have CT := Lib.hid (fun W (h : log <= 4096) (h2 : p <= 4096) => vtext_any e s log p W x4 x12 h h2)
 clear ht
 have HG4 := Lib.hid g4; have HG12 := Lib.hid g12
 obtain ⟨A0, hA0⟩ : ∃ A0, w.alloc (.cells #[.int .u64 0, .int .u64 0, .int .i64 0, .int .i64 0] 134) = A0 := ⟨_, rfl⟩
 have hr0 : A0.heap[w.heap.size]? = some (.cells #[.int .u64 0, .int .u64 0, .int .i64 0, .int .i64 0] 134 (0, 0)) := by rw [<- hA0, heap_alloc_new]
 have HB0 : Hid (Below w.heap.size w A0) := by rw [<- hA0]; exact (Below.refl _ _).alloc (Nat.le_refl _) _
 have hz0 : w.heap.size < A0.heap.size := (Array.getElem?_eq_some_iff.1 hr0).1
 have HR0 := Lib.hid hr0; clear hr0
 have HA0 := Lib.hid hA0; clear hA0
 have fin : Hid (∀ (X5 : World) (x0 x1 x2 x3 : Int) (b : Bool) (tmps : Array Value), Below A0.heap.size A0 X5 -> tmps.getD 4 undef = .pointer (some ⟨w.heap.size, 0, none⟩) -> tmps.getD 5 undef = .bool b ->
   (rdSlot t n = none /\ b = false) \/ (rdSlot t n = some (e, s, log, p) /\ x0 = (e : Int) /\ x1 = (s : Int) /\ x2 = (log : Int) /\ x3 = (p : Int) /\ b = true) ->
   bodyPost Tryz.prog Tryz.f139 (fun r w' => VRead w (rdSlot t n) r w') .ret ⟨tmps, []⟩ ((((X5.setCell ⟨w.heap.size, 0, none⟩ (.int .u64 x0)).setCell ⟨w.heap.size, 1, none⟩ (.int .u64 x1)).setCell ⟨w.heap.size, 2, none⟩ (.int .i64 x2)).setCell ⟨w.heap.size, 3, none⟩ (.int .i64 x3))) := by
  intro X5 x0 x1 x2 x3 b tmps h5 ht4 ht5 hc
  have h0 := (h5.block _ hz0).trans HR0.out
  have h4 := heap_setCell_at (i := 3) (heap_setCell_at (i := 2) (heap_setCell_at (i := 1) (heap_setCell_at (i := 0) h0 (.int .u64 x0)) (.int .u64 x1)) (.int .i64 x2)) (.int .i64 x3)
  have hbw := HB0.out.trans (h5.mono (Nat.le_of_lt hz0))
  refine bodyPost_ret (results_vslot tmps w.heap.size _ b x0 x1 x2 x3 ht4 ht5 h4) rfl ⟨x0, x1, x2, x3, b, rfl, (((hbw.setCell (Nat.le_refl _) _).setCell (Nat.le_refl _) _).setCell (Nat.le_refl _) _).setCell (Nat.le_refl _) _, ?_⟩
  rcases hc with ⟨hr, rfl⟩ | ⟨hr, rfl, rfl, rfl, rfl, rfl⟩
  ·exact .inl ⟨hr, rfl⟩
  ·exact .inr ⟨_, hr, rfl, rfl, rfl, rfl, rfl⟩
 have HFr : Hid (∀ W, Below A0.heap.size A0 W -> W.cell? ⟨w.heap.size, 0, none⟩ = some (.int .u64 0) /\ W.cell? ⟨w.heap.size, 1, none⟩ = some (.int .u64 0) /\ W.cell? ⟨w.heap.size, 2, none⟩ = some (.int .i64 0) /\ W.cell? ⟨w.heap.size, 3, none⟩ = some (.int .i64 0) /\ W.frozen? ⟨w.heap.size, 0, none⟩ = false /\ W.frozen? ⟨w.heap.size, 1, none⟩ = false /\ W.frozen? ⟨w.heap.size, 2, none⟩ = false /\ W.frozen? ⟨w.heap.size, 3, none⟩ = false) := fun W hW => by
  have h0 := (hW.block _ hz0).trans HR0.out
  exact ⟨by rw [cell_at h0]; rfl, by rw [cell_at h0]; rfl, by rw [cell_at h0]; rfl, by rw [cell_at h0]; rfl, free_at h0 0, free_at h0 1, free_at h0 2, free_at h0 3⟩
 go_enter Tryz.func139, Tryz.ntmps139
 go_wp2_with fail
 rw [HA0.out]
 refine (F3.out _).mono ?_
 rintro r w1 ⟨rfl, hb1⟩
 have HB1 := Lib.hid hb1; clear hb1
 go_wp2_with fail
 refine (F4.out _).mono ?_
 rintro r w2 ⟨rfl, hb2⟩
 have HB2 := Lib.hid (HB1.out.trans (hb2.mono HB1.out.size)); clear hb2 HB1
 obtain ⟨r0, r1, r2, r3, q0, q1, q2, q3⟩ := HFr.out _ HB2.out
 by_cases hf : 50 <= log /\ log <= 4096 /\ log + 3 <= n /\ p < log
 ·obtain ⟨f1, f2, f3, f4⟩ := hf
  have d1 : ¬ (log : Int) < 50 := by omega
  have d2 : ¬ (4096 : Int) < (log : Int) := by omega
  have d3 : ¬ (n : Int) - 3 < (log : Int) := by omega
  have d4 : ¬ (log : Int) <= (p : Int) := by omega
  have CT2 := Lib.hid (fun W => CT.out W (by omega) (by omega))
  have v1 : IntKind.i64.wrap (log : Int) = (log : Int) := IntWalk.i64_in _ (by omega)
  have v2 : IntKind.i64.wrap (p : Int) = (p : Int) := IntWalk.i64_in _ (by omega)
  have hzz : w.heap.size < w2.heap.size := Nat.lt_of_lt_of_le hz0 HB2.out.size
  have hne1 : w2.heap.size ≠ w.heap.size := by omega
  have hne2 : w.heap.size ≠ w2.heap.size := by omega
  go_upto_region 5 with fail
  go_cut [12] (fun s12 wx => ∃ g : Nat, s12 = .pointer (some ⟨g, 0, none⟩) /\ Hid (Below w2.heap.size w2 wx /\ wx.heap[g]? = some (.cells #[.int .u64 (e : Int), .int .u64 (s : Int), .int .i64 (log : Int), .int .i64 (p : Int)] 134 (0, 0))))
  case first =>
   go_region_held3 (fun W => W.cell? ⟨w.heap.size, 0, none⟩ = some (.int .u64 0))
    (first | exact r0 | go_keep)
    (first | (go_at_call 180; refine (CL.out _ _ ?_).mono ?_; (first | exact .inl rfl | exact .inr rfl); rintro r w' ⟨rfl, rfl⟩))
   all_goals
    go_wp2_with fail
    go_meet
    exact ⟨_, rfl, ⟨((((((Below.refl _ _).alloc (Nat.le_refl _) _).drew).drew).drew).drew).drew, heap_alloc_new ..⟩⟩
  case rest =>
   obtain ⟨g, rfl, hg⟩ := hcut
   obtain ⟨hg1, hg2⟩ := hg.out
   clear hg r0 r1 r2 r3 q0 q1 q2 q3
   have HBc : Hid (Below A0.heap.size A0 wc) := keep_call HB2.out hg1
   have hgl : g < wc.heap.size := (Array.getElem?_eq_some_iff.1 hg2).1
   have HKg : Hid (∀ W, Below wc.heap.size wc W -> W.cell? ⟨g, 0, none⟩ = some (.int .u64 (e : Int)) /\ W.cell? ⟨g, 1, none⟩ = some (.int .u64 (s : Int)) /\ W.cell? ⟨g, 2, none⟩ = some (.int .i64 (log : Int)) /\ W.cell? ⟨g, 3, none⟩ = some (.int .i64 (p : Int))) := fun W hW => by
    have h0 := (hW.block g hgl).trans hg2
    exact ⟨by rw [cell_at h0]; rfl, by rw [cell_at h0]; rfl, by rw [cell_at h0]; rfl, by rw [cell_at h0]; rfl⟩
   have hgw : g ≠ w.heap.size := fun e => by
    have h0 := HFr.out _ HBc.out
    have h1 : wc.heap[w.heap.size]? = some (.cells #[.int .u64 0, .int .u64 0, .int .i64 0, .int .i64 0] 134 (0, 0)) := (HBc.out.block _ hz0).trans HR0.out
    rw [e, h1] at hg2
    simp only [Option.some.injEq, Obj.cells.injEq] at hg2
    have h2 := congrArg (fun x : Array Value => x[2]?) hg2.1
    simp at h2
    omega
   have hgw2 : w.heap.size ≠ g := fun e => hgw e.symm
   obtain ⟨k0, k1, k2, k3⟩ := HKg.out _ (Below.refl _ _)
   clear hg1 hg2
   by_cases hte : t = slotB e s log p
   ·have HR : Hid (rdSlot t n = some (e, s, log, p)) := (HI.out _).2 ⟨⟨by omega, by omega, by omega, hte⟩, rfl⟩
    have hcmp : ((slotB e s log p).toList == t.toList) = true := by rw [Fr.str_same hte.symm]
    generalize slotB e s log p = tt at *
    clear hte HI CT
    go_wp2_with fail
    go_region_held3 (fun W => W.cell? ⟨g, 0, none⟩ = some (.int .u64 (e : Int)) /\ W.cell? ⟨g, 1, none⟩ = some (.int .u64 (s : Int)) /\ W.cell? ⟨g, 2, none⟩ = some (.int .i64 (log : Int)) /\ W.cell? ⟨g, 3, none⟩ = some (.int .i64 (p : Int)))
     (first | exact ⟨k0, k1, k2, k3⟩ | assumption | go_keep)
     (first | (go_at_call 136; refine (CT2.out _).mono ?_; rintro r w6 ⟨rfl, hb6'⟩; have hb6 : Below wc.heap.size wc w6 := Fr.below_predrew hb6'; have hh6 := HKg.out _ hb6; obtain ⟨r0, r1, r2, r3, q0, q1, q2, q3⟩ := HFr.out _ (keep_call HBc.out hb6)))
    go_wp2
    exact fin.out _ _ _ _ _ _ _ (keep_call HBc.out hb6) rfl rfl (.inr ⟨HR.out, rfl, rfl, rfl, rfl, rfl⟩)
   ·have HR : Hid (rdSlot t n = none) := by
     cases h : rdSlot t n with
     | none => rfl
     | some x => exact absurd ((HI.out _).1 h).1.2.2.2 hte
    have hcmp : ((slotB e s log p).toList == t.toList) = false := by rw [Fr.str_diff (fun h => hte h.symm)]
    generalize slotB e s log p = tt at *
    clear hte HI CT
    go_wp2_with fail
    go_region_held3 (fun W => W.cell? ⟨g, 0, none⟩ = some (.int .u64 (e : Int)) /\ W.cell? ⟨g, 1, none⟩ = some (.int .u64 (s : Int)) /\ W.cell? ⟨g, 2, none⟩ = some (.int .i64 (log : Int)) /\ W.cell? ⟨g, 3, none⟩ = some (.int .i64 (p : Int)))
     (first | exact ⟨k0, k1, k2, k3⟩ | assumption | go_keep)
     (first | (go_at_call 136; refine (CT2.out _).mono ?_; rintro r w6 ⟨rfl, hb6'⟩; have hb6 : Below wc.heap.size wc w6 := Fr.below_predrew hb6'; have hh6 := HKg.out _ hb6; obtain ⟨r0, r1, r2, r3, q0, q1, q2, q3⟩ := HFr.out _ (keep_call HBc.out hb6)))
    go_wp2
    exact fin.out _ _ _ _ _ _ _ (keep_call HBc.out hb6) rfl rfl (.inl ⟨HR.out, rfl⟩)
 ·have HR : Hid (rdSlot t n = none) := by
   cases h : rdSlot t n with
   | none => rfl
   | some x =>
    have h1 := ((HI.out _).1 h).1
    exact absurd ⟨h1.1, by omega, h1.2.1, h1.2.2.1⟩ hf
  have HFin : Hid (∀ (tmps : Array Value), tmps.getD 4 undef = .pointer (some ⟨w.heap.size, 0, none⟩) -> tmps.getD 5 undef = .bool false -> bodyPost Tryz.prog Tryz.f139 (fun r w' => VRead w (rdSlot t n) r w') .ret ⟨tmps, []⟩ ((((w2.setCell ⟨w.heap.size, 0, none⟩ (.int .u64 0)).setCell ⟨w.heap.size, 1, none⟩ (.int .u64 0)).setCell ⟨w.heap.size, 2, none⟩ (.int .i64 0)).setCell ⟨w.heap.size, 3, none⟩ (.int .i64 0))) :=
   fun tmps h1 h2 => fin.out w2 0 0 0 0 false tmps HB2.out h1 h2 (.inl ⟨HR.out, rfl⟩)
  clear HI CT CL
  by_cases a1 : log < 50
  ·have d1 : (log : Int) < 50 := by omega
   go_wp2
   exact HFin.out _ rfl rfl
  ·have d1 : ¬ (log : Int) < 50 := by omega
   by_cases a2 : 4096 < log
   ·have d2 : (4096 : Int) < (log : Int) := by omega
    go_wp2
    exact HFin.out _ rfl rfl
   ·have d2 : ¬ (4096 : Int) < (log : Int) := by omega
    by_cases a3 : n < log + 3
    ·have d3 : (n : Int) - 3 < (log : Int) := by omega
     go_wp2
     exact HFin.out _ rfl rfl
    ·have d3 : ¬ (n : Int) - 3 < (log : Int) := by omega
     have d4 : (log : Int) <= (p : Int) := by omega
     go_wp2
     exact HFin.out _ rfl rfl
end Go.Proofs.YthambopnmhkeeaaGreat
/- The document's own journal: what frame answers: the same. -/
set_option maxRecDepth 100000
namespace Go.Proofs.YthambopnmhkeeaaGreat
open Go.RowKit
open Fr (SlS SlW OwnS OwnW one_cell one_one unp runpack_any)
def VFrame (w : World) (x : Option (List (Int × ByteArray))) (e : Ending) (w' : World) : Prop :=
 ∃ u, ∃ k : Int, ∃ b : Bool, e = .returned (.tuple #[u, .int .i64 k, .bool b]) /\ Below w.heap.size w w' /\ ((x = none /\ b = false) \/ ∃ ws, x = some ws /\ b = true /\ k = 1 + (ws.length : Int) /\ OwnW w.heap.size w' u ws)
theorem unp_few (L : List ByteArray) : (unp L).2.1.length <= 48 := by
 cases L with
 | nil => exact Nat.zero_le _
 | cons s T =>
  by_cases h : (unp (s :: T)).2.2 = 0
  ·exact (unp_ok s T h).2.1
  ·rw [Fr.unp_cons] at h ⊢
   split
   ·rename_i h1
    rw [if_pos h1] at h
    split
    ·rename_i h2; rw [if_pos h2] at h; exact absurd rfl h
    ·exact Nat.zero_le _
   ·exact Nat.zero_le _
theorem own_pushV {B : Nat} {w1 : World} {v1 : Value} {M : List ByteArray} {s : ByteArray} (hown : w1.ownsRow B 9 1 v1 (M.length + 1) (M.map Value.string ++ [.string s])) : OwnS B w1 v1 (M ++ [s]) := by
 unfold OwnS
 rw [List.length_append, List.map_append]
 exact hown
section
variable {S : Nat -> Prop} {w : World} {a r : Nat} {J : JS} {D : DevS}
set_option maxHeartbeats 400000 in
theorem vplace_at (i : Nat) (h : Jr 136 w a r J) {n : Nat} (ok : J.Ok n) (hn : n <= 4096) (hi : i <= 10000) :
  Calls Tryz.prog 181 #[.pointer (some ⟨a, 0, none⟩), .int .i64 (i : Int)] w fun e w' => e = .returned (.int .i64 ((2 + (J.p + i) % J.log : Nat) : Int)) /\ w' = w.drew := by
 have c3 := h.c3; have c4 := h.c4; clear h
 have h1 := ok.l1; have h2 := ok.l0; have h3 := ok.pl
 clear ok
 generalize J.log = l at *
 generalize J.p = q at *
 have w2 : ((q : Int) + (i : Int)).tmod (l : Int) = (((q + i) % l : Nat) : Int) := by rw [Int.tmod_eq_emod_of_nonneg (by omega)]; simp
 have w1 : IntKind.i64.wrap ((q : Int) + (i : Int)) = (q : Int) + (i : Int) := IntWalk.i64_in _ (by omega)
 have hm := Nat.mod_lt (q + i) (show 0 < l by omega)
 generalize (q + i) % l = rr at *
 have w3 : IntKind.i64.wrap (rr : Int) = (rr : Int) := IntWalk.i64_in _ (by omega)
 have w4 : IntKind.i64.wrap (2 + (rr : Int)) = 2 + (rr : Int) := IntWalk.i64_in _ (by omega)
 have hl0 : ((l : Int) == 0) = false := beq_eq_false_iff_ne.2 (by omega)
 have hl1 : ((l : Int) == -1) = false := beq_eq_false_iff_ne.2 (by omega)
 have e' : ((2 + rr : Nat) : Int) = 2 + (rr : Int) := by omega
 rw [e']
 clear e'
 go_enter Tryz.func181, Tryz.ntmps181
 go_wp2
 go_region
 go_wp2
 go_ret
 exact ⟨rfl, rfl⟩
set_option maxHeartbeats 400000 in
theorem vhome_at (h : Jr 136 w a r J) (hl : J.log <= 4096) : Calls Tryz.prog 145 #[.pointer (some ⟨a, 0, none⟩)] w fun e w' => e = .returned (.int .i64 J.home) /\ w = w' := by
 have c := h.c3; clear h
 have e0 : (J.home : Int) = 2 + (J.log : Int) := by unfold JS.home; omega
 rw [e0]; clear e0
 generalize J.log = l at *
 go_enter Tryz.func145, Tryz.ntmps145
 go_wp2
 go_ret
 exact ⟨rfl, rfl⟩
set_option maxHeartbeats 4000000 in
theorem vframe_any (hj : Jr 136 w a r J) (hd : RStands S w r D) (hde : D.dead = false) (ok : J.Ok D.disk.length) (hp : D.pend.length <= 900000) :
  Calls Tryz.prog 140 #[.pointer (some ⟨a, 0, none⟩)] w fun e w' => VFrame w (J.frameOf D) e w' := by
 obtain ⟨i0, hi, hz0, hz1, hz2⟩ := info_parts Tryz.infoS
 have HZ2 := Lib.hid hz2; clear hz2
 have hn := hd.ok.few
 have c3 := hj.c3; have c7 := hj.c7
 have hfu := ok.fu; have hl1 := ok.l1
 have hlf : J.left = J.log - J.full := rfl
 have HFS := Lib.hid (frame_same J D)
 have HJ := Lib.hid hj; have HD := Lib.hid hd; have HOK := Lib.hid ok
 have hal := hj.lt
 have CP : Hid (∀ W, Below w.heap.size w W -> ∀ i : Nat, i <= 49 -> Calls Tryz.prog 181 #[.pointer (some ⟨a, 0, none⟩), .int .i64 ((J.full : Int) + (i : Int))] W fun e w' => e = .returned (.int .i64 ((J.pos i : Nat) : Int)) /\ w' = W.drew) := fun W hW i hi => by
  have := vplace_at (J.full + i) (hj.below hW) ok hn (by omega)
  rw [show ((J.full + i : Nat) : Int) = (J.full : Int) + (i : Int) by omega] at this
  rw [show J.pos i = 2 + (J.p + (J.full + i)) % J.log by unfold JS.pos; rw [Nat.add_assoc]]
  exact this
 have CR : Hid (∀ W, Below w.heap.size w W -> ∀ i : Nat, Calls Tryz.prog 138 #[.pointer (some ⟨r, 0, none⟩), .int .i64 ((J.pos i : Nat) : Int)] W fun e w' => e = .returned (.tuple #[.string (D.rdB (J.pos i)), .int .i64 0]) /\ W = w') := fun W hW i => by
  have := rread_any ((J.pos i : Nat) : Int) (by omega) (hd.below hW)
  have hpl := ok.pos_lt i
  rw [DevS.rd_live hde _ (by omega)] at this
  exact this
 have HK : Hid (∀ W, Below w.heap.size w W -> W.cell? ⟨a, 0, none⟩ = some (.pointer (some ⟨r, 0, none⟩)) /\ W.cell? ⟨a, 7, none⟩ = some (.int .i64 (J.full : Int))) := fun W hW => ⟨(hj.below hW).c0, (hj.below hW).c7⟩
 have HRS : Hid (∀ i, (D.rdB (J.pos i)).size = 256) := fun i => hd.ok.rdB_size _ (by have := ok.pos_lt i; omega)
 clear hj hd ok hde
 obtain ⟨lf, hlf2⟩ : ∃ lf, J.left = lf := ⟨_, rfl⟩
 have wl : IntKind.i64.wrap ((J.log : Int) - (J.full : Int)) = (lf : Int) := by rw [show (J.log : Int) - (J.full : Int) = (lf : Int) by omega]; exact IntWalk.i64_in _ (by omega)
 rw [hlf2] at HFS
 have hlf3 : lf <= 4096 := by omega
 clear hlf hlf2
 go_enter Tryz.func140, Tryz.ntmps140
 go_wp2_with fail
 go_region
 have HB0 : Hid (Below w.heap.size w w.drew) := (Below.refl _ _).drew
 clear c3 c7 wl
 go_wp2_with fail
 go_loopw [6, 7] (fun lv i wr => ∃ k : Nat, k <= min lf 49 /\ i = .int .i64 (k : Int) /\ Hid (OwnS w.heap.size wr lv (J.readL D k)) /\ Hid (Below w.heap.size w wr)) (fun _ i _ => 50 - (intOf i).toNat)
 case atStart => exact ⟨0, Nat.zero_le _, rfl, OwnS.nil _ _, HB0⟩
 case round =>
  obtain ⟨k, hk, rfl, HO, HB⟩ := hrel
  by_cases hlt : k < min lf 49
  ·have i1 : (k : Int) < (lf : Int) := by omega
   have i2 : (k : Int) < 49 := by omega
   have CPk := Lib.hid (fun W hW => CP.out W hW k (by omega))
   have CRk := Lib.hid (fun W hW => CR.out W hW k)
   have HSN := Lib.hid (readL_succ J D k)
   have hlen : (J.readL D k).length <= 49 := by rw [readL_len]; omega
   obtain ⟨c0, c7⟩ := HK.out _ HB.out
   have ws : IntKind.i64.wrap ((J.full : Int) + (k : Int)) = (J.full : Int) + (k : Int) := IntWalk.i64_in _ (by omega)
   generalize J.readL D k = M at *
   generalize D.rdB (J.pos k) = T at *
   generalize J.pos k = ps at *
   have hbr := HB.out.size
   go_wp2_with fail
   go_region_held3 (fun W => W.cell? ⟨a, 0, none⟩ = some (.pointer (some ⟨r, 0, none⟩)) /\ W.cell? ⟨a, 7, none⟩ = some (.int .i64 (J.full : Int)))
    (first | exact ⟨c0, c7⟩ | assumption)
    (first
     | (go_at_call 181; refine (CPk.out _ HB.out.drew).mono ?_; rintro e w1 ⟨rfl, rfl⟩)
     | (go_at_call 138; refine (CRk.out _ HB.out.drew.drew).mono ?_; rintro e w2 ⟨rfl, rfl⟩))
   have HB2 : Hid (Below w.heap.size w wr.drew.drew) := HB.out.drew.drew
   have HO2 : Hid (OwnS w.heap.size wr.drew.drew _ M) := HO.out.below ((Below.refl _ _).drew.drew)
   obtain ⟨w3, hw3⟩ : ∃ w3, wr.drew.drew = w3 := ⟨_, rfl⟩
   rw [hw3] at HB2 HO2 ⊢
   have hz3 := HB2.out.size
   clear hw3 ws c0 c7
   obtain ⟨ao2, c2, hv, _⟩ := HO2.out.sl
   subst hv
   go_wp2_with (at_builtin; go_loud (refine wpList_append_own _ rfl _ _ 47 rfl w.heap.size 9 i0 _ 1 16 Tryz.underlying47 hi hz0 hz1 HZ2.out rfl (by decide) _ _ _ rfl (HO2.out.alloc _) _ 1 1 [.string T] rfl rfl (one_cell (by simp)) one_one ?c3 ?c4 ?c5 ?_))
   case c3 => unfold maxLen; omega
   case c4 => omega
   case c5 => simp; omega
   intro v1 w4 hown hgrow _
   have HO4 : Hid (OwnS w.heap.size w4 v1 (J.readL D (k + 1))) := by
    show OwnS _ _ _ _
    rw [HSN.out]
    exact own_pushV hown
   have HB4 : Hid (Below w.heap.size w w4) := (HB2.out.alloc hz3 _).grown hgrow (by simp; omega) (fun q hq => (HO2.out.lt q hq).1)
   clear hown hgrow
   go_wp2
   go_roundw
   case rel => exact ⟨k + 1, by omega, by go_num, HO4, HB4⟩
   case measure => simp [intOf]; omega
  ·have hkm : k = min lf 49 := by omega
   have hLs : ∀ d ∈ J.readL D k, d.size <= maxLen := fun d hd => by
    unfold JS.readL at hd
    simp only [List.mem_map, List.mem_range] at hd
    obtain ⟨i, _, rfl⟩ := hd
    have := HRS.out i
    unfold maxLen; omega
   have CU := Lib.hid (runpack_any (J.readL D k) u6 wr (by rw [readL_len]; omega) hLs HO.out.sl)
   rw [<- hkm] at HFS
   clear hkm hLs
   have hwl := unp_few (J.readL D k)
   obtain ⟨R, hR⟩ : ∃ R, unp (J.readL D k) = R := ⟨_, rfl⟩
   rw [hR] at CU HFS hwl
   clear hR
   obtain ⟨sq, ws, er⟩ := R
   simp only at CU hwl
   have HKn : Hid (∀ W, Below w.heap.size w W -> W.cell? ⟨a, 6, none⟩ = some (.int .u64 (J.next : Int))) := fun W hW => (HJ.out.below hW).c6
   have CH : Hid (∀ W, Below w.heap.size w W -> Calls Tryz.prog 145 #[.pointer (some ⟨a, 0, none⟩)] W fun e w' => e = .returned (.int .i64 J.home) /\ W = w') := fun W hW => vhome_at (HJ.out.below hW) (by omega)
   obtain ⟨qd, lcap, hcd⟩ : ∃ qd lcap, Hid (∀ W, Below w.heap.size w W -> W.cell? ⟨r, 0, none⟩ = some (.slice (some ⟨qd, 0, none⟩) D.disk.length lcap)) := by
    obtain ⟨qd, lcap, pv, href⟩ := HD.out
    exact ⟨qd, lcap, fun W hW => (href.kept (Only.of_below (fun _ => False) hW (Nat.le_refl _)) (fun _ _ f => f)).c0⟩
   have hju : (¬ (k : Int) < (lf : Int)) \/ ((k : Int) < (lf : Int) /\ ¬ (k : Int) < 49) := by omega
   clear CP CR HRS HJ HD
   obtain ⟨n, hnn⟩ : ∃ n, D.disk.length = n := ⟨_, rfl⟩
   rw [hnn] at HFS hcd hn hl1
   clear hnn HOK hp
   rcases hju with j1 | ⟨j1, j2⟩
   all_goals
    go_wp2_with fail
    refine CU.out.mono ?_
    rintro e w5 ⟨u, rfl, ho5, hb5⟩
    have HB5 : Hid (Below w.heap.size w w5) := keep_call HB.out hb5
    have HO5 : Hid (OwnW w.heap.size w5 u ws) := ho5.mono HB.out.size
    have c6 := HKn.out _ HB5.out
    clear ho5 hb5 CU
    by_cases he : er = 0
    ·subst he
     by_cases hs : sq = J.next
     ·subst hs
      have b1 : ((J.next : Int) != (J.next : Int)) = false := by simp
      obtain ⟨ao, cu, hv, _⟩ := HO5.out.sl
      subst hv
      go_wp2_with fail
      go_loopw [13] (fun i wr => ∃ j : Nat, j <= ws.length /\ i = .int .i64 (j : Int) /\ Hid (∀ x ∈ ws.take j, (J.home : Int) <= x.1 /\ x.1 < (n : Int)) /\ Hid (Below w5.heap.size w5 wr)) (fun i _ => ws.length - (intOf i).toNat)
      case atStart => exact ⟨0, Nat.zero_le _, rfl, fun x hx => by simp at hx, Below.refl _ _⟩
      case round =>
       obtain ⟨j, hj, rfl, HP, HBw⟩ := hrel
       have HBj : Hid (Below w.heap.size w wr) := keep_call HB5.out HBw.out
       have HOj : Hid (OwnW w.heap.size wr (.slice ao ws.length cu) ws) := HO5.out.below HBw.out
       by_cases hjl : j < ws.length
       ·obtain ⟨gx, cx, hvx, _, _, _, hwa, _⟩ := HOj.out.here (by omega)
        obtain ⟨rfl, rfl⟩ : ao = some ⟨gx, 0, none⟩ /\ cu = cx := by simpa using hvx
        obtain ⟨x0, _⟩ := hwa j hjl
        have c0 := (HK.out _ HBj.out).1
        have dn := hcd.out _ HBj.out
        have HTk := Lib.hid (List.take_succ_eq_append_getElem hjl)
        have HMm : Hid (ws[j] ∈ ws) := List.getElem_mem hjl
        have HNo : Hid (¬ ((J.home : Int) <= ws[j].1 /\ ws[j].1 < (n : Int)) -> J.frameOf D = none) := fun hq => by rw [HFS.out, if_neg (fun h => hq (h.2.2 ws[j] HMm.out))]
        have HYe : Hid ((J.home : Int) <= ws[j].1 /\ ws[j].1 < (n : Int) -> ∀ x ∈ ws.take (j + 1), (J.home : Int) <= x.1 /\ x.1 < (n : Int)) := fun hq x hx => by
         rw [HTk.out, List.mem_append, List.mem_singleton] at hx
         rcases hx with hx | rfl
         ·exact HP.out x hx
         ·exact hq
        generalize ws[j].1 = x at *
        have i1 : (j : Int) < (ws.length : Int) := by omega
        clear hvx hwa HTk HMm HFS hcd HOj
        rw [Nat.zero_add] at x0
        by_cases q1 : x < (J.home : Int)
        ·have HN := Lib.hid (HNo.out (by omega))
         have d1 : decide (x < (J.home : Int)) = true := decide_eq_true q1
         clear HNo HYe
         generalize J.home = ho at *
         go_wp2_with fail
         go_quiet ((go_at_call 145; refine Calls.quiet_of_same (((CH.out _ ?_).mono (fun e w' h => ⟨h.1, h.2.symm⟩))); exact ⟨HBj.out.os, HBj.out.tape, HBj.out.output, HBj.out.size, HBj.out.block⟩))
         go_wp2
         go_ret3
         exact ⟨_, _, false, rfl, Fr.below_drewN HBj.out _, .inl ⟨HN.out, rfl⟩⟩
        ·have d1 : decide (x < (J.home : Int)) = false := decide_eq_false q1
         by_cases q2 : (n : Int) <= x
         ·have HN := Lib.hid (HNo.out (by omega))
          have d2 : decide ((n : Int) <= x) = true := decide_eq_true q2
          clear HNo HYe
          generalize J.home = ho at *
          go_wp2_with fail
          go_quiet ((go_at_call 145; refine Calls.quiet_of_same (((CH.out _ ?_).mono (fun e w' h => ⟨h.1, h.2.symm⟩))); exact ⟨HBj.out.os, HBj.out.tape, HBj.out.output, HBj.out.size, HBj.out.block⟩))
          go_wp2
          go_ret3
          exact ⟨_, _, false, rfl, Fr.below_drewN HBj.out _, .inl ⟨HN.out, rfl⟩⟩
         ·have HY := Lib.hid (HYe.out ⟨by omega, by omega⟩)
          have d2 : decide ((n : Int) <= x) = false := decide_eq_false q2
          clear HNo HYe
          generalize J.home = ho at *
          go_wp2_with fail
          go_quiet ((go_at_call 145; refine Calls.quiet_of_same (((CH.out _ ?_).mono (fun e w' h => ⟨h.1, h.2.symm⟩))); exact ⟨HBj.out.os, HBj.out.tape, HBj.out.output, HBj.out.size, HBj.out.block⟩))
          go_wp2
          go_roundw
          case rel => exact ⟨j + 1, by omega, by go_num, HY, Fr.below_drewN HBw.out _⟩
          case measure => simp [intOf]; omega
       ·have hje : j = ws.length := by omega
        rw [hje, List.take_length] at HP
        have HS : Hid (J.frameOf D = some ws) := by show _ = _; rw [HFS.out, if_pos ⟨rfl, rfl, HP.out⟩]
        clear hje HP HFS hcd
        go_wp2
        go_ret3
        exact ⟨_, _, true, rfl, HBj.out, .inr ⟨ws, HS.out, rfl, rfl, HOj.out⟩⟩
     ·have b1 : ((sq : Int) != (J.next : Int)) = true := by simp; omega
      have HN : Hid (J.frameOf D = none) := by show _ = _; rw [HFS.out, if_neg (fun h => hs h.2.1)]
      go_wp2
      go_ret3
      exact ⟨_, _, false, rfl, HB5.out, .inl ⟨HN.out, rfl⟩⟩
    ·have b1 : ((er : Int) != 0) = true := by simp; omega
     have HN : Hid (J.frameOf D = none) := by show _ = _; rw [HFS.out, if_neg (fun h => he h.1)]
     go_wp2
     go_ret3
     exact ⟨_, _, false, rfl, HB5.out, .inl ⟨HN.out, rfl⟩⟩
end
end Go.Proofs.YthambopnmhkeeaaGreat
/- The document's own Open, in plain lists: which slot counts, looked for from block 1 down to block 0; the journal in memory before a slot is found. -/
namespace Go.Proofs.YthambopnmhkeeaaGreat
open Go.RowKit
def DevS.bestV (D : DevS) : Nat -> Option ((Nat × Nat × Nat × Nat) × Nat)
 | 0 => none
 | 1 => (D.slotAt 1).map fun y => (y, 1)
 | _ => match D.slotAt 0, D.slotAt 1 with
  | none, none => none
  | some x, none => some (x, 0)
  | none, some y => some (y, 1)
  | some x, some y => if y.1 <= x.1 then some (x, 0) else some (y, 1)
theorem find_bestV (D : DevS) : D.find = (D.bestV 2).map (fun x => slotJ x.1 x.2) := by
 unfold DevS.find
 show _ = Option.map _ (match D.slotAt 0, D.slotAt 1 with
  | none, none => none
  | some x, none => some (x, 0)
  | none, some y => some (y, 1)
  | some x, some y => if y.1 <= x.1 then some (x, 0) else some (y, 1))
 cases D.slotAt 0 with
 | none => cases D.slotAt 1 <;> rfl
 | some x =>
  cases D.slotAt 1 with
  | none => rfl
  | some y =>
   show (if x.1 < y.1 then _ else _) = Option.map _ (if y.1 <= x.1 then _ else _)
   by_cases h : x.1 < y.1
   ·rw [if_pos h, if_neg (by omega)]; rfl
   ·rw [if_neg h, if_pos (by omega)]; rfl
theorem bestV_none (D : DevS) (k : Nat) (hk : k < 2) (h : D.slotAt (1 - k) = none) : D.bestV (k + 1) = D.bestV k := by
 rcases (show k = 0 \/ k = 1 by omega) with rfl | rfl
 ·show (D.slotAt 1).map _ = none
  rw [show D.slotAt 1 = none from h]; rfl
 ·have h0 : D.slotAt 0 = none := h
  show (match D.slotAt 0, D.slotAt 1 with
   | none, none => none
   | some x, none => some (x, 0)
   | none, some y => some (y, 1)
   | some x, some y => if y.1 <= x.1 then some (x, 0) else some (y, 1)) = (D.slotAt 1).map _
  rw [h0]
  cases D.slotAt 1 <;> rfl
theorem bestV_some (D : DevS) (k : Nat) (hk : k < 2) {x : Nat × Nat × Nat × Nat} (h : D.slotAt (1 - k) = some x) : D.bestV (k + 1) = match D.bestV k with | none => some (x, 1 - k) | some y => if y.1.1 <= x.1 then some (x, 1 - k) else some y := by
 rcases (show k = 0 \/ k = 1 by omega) with rfl | rfl
 ·show (D.slotAt 1).map _ = some (x, 1)
  rw [show D.slotAt 1 = some x from h]; rfl
 ·have h0 : D.slotAt 0 = some x := h
  show (match D.slotAt 0, D.slotAt 1 with
   | none, none => none
   | some x, none => some (x, 0)
   | none, some y => some (y, 1)
   | some x, some y => if y.1 <= x.1 then some (x, 0) else some (y, 1)) = match (D.slotAt 1).map (fun y => (y, 1)) with | none => some (x, 0) | some y => if y.1.1 <= x.1 then some (x, 0) else some y
  rw [h0]
  cases D.slotAt 1 <;> rfl
def VCells (r : Nat) : Option ((Nat × Nat × Nat × Nat) × Nat) -> Array Value
 | none => #[.pointer (some ⟨r, 0, none⟩), .int .u64 0, .int .u64 0, .int .i64 0, .int .i64 0, .int .i64 (-1), .int .u64 0, .int .i64 0]
 | some x => #[.pointer (some ⟨r, 0, none⟩), .int .u64 (x.1.1 : Int), .int .u64 (x.1.2.1 : Int), .int .i64 (x.1.2.2.1 : Int), .int .i64 (x.1.2.2.2 : Int), .int .i64 (x.2 : Int), .int .u64 0, .int .i64 0]
def VJr (w : World) (a r : Nat) (o : Option ((Nat × Nat × Nat × Nat) × Nat)) : Prop := w.heap[a]? = some (.cells (VCells r o) 136 (0, 0))
section
variable {w w' : World} {a r : Nat} {o : Option ((Nat × Nat × Nat × Nat) × Nat)}
theorem VJr.lt (h : VJr w a r o) : a < w.heap.size := (Array.getElem?_eq_some_iff.1 h).1
theorem VJr.f (h : VJr w a r o) (i : Nat) : w.frozen? ⟨a, i, none⟩ = false := free_at h i
theorem VJr.below (h : VJr w a r o) (hb : Below w.heap.size w w') : VJr w' a r o := by unfold VJr; rw [hb.block a h.lt]; exact h
theorem VJr.c0 (h : VJr w a r o) : w.cell? ⟨a, 0, none⟩ = some (.pointer (some ⟨r, 0, none⟩)) := by rw [cell_at h]; cases o <;> rfl
def v1 : Option ((Nat × Nat × Nat × Nat) × Nat) -> Int | none => 0 | some x => (x.1.1 : Int)
def v2 : Option ((Nat × Nat × Nat × Nat) × Nat) -> Int | none => 0 | some x => (x.1.2.1 : Int)
def v3 : Option ((Nat × Nat × Nat × Nat) × Nat) -> Int | none => 0 | some x => (x.1.2.2.1 : Int)
def v4 : Option ((Nat × Nat × Nat × Nat) × Nat) -> Int | none => 0 | some x => (x.1.2.2.2 : Int)
def v5 : Option ((Nat × Nat × Nat × Nat) × Nat) -> Int | none => -1 | some x => (x.2 : Int)
theorem VJr.c1 (h : VJr w a r o) : w.cell? ⟨a, 1, none⟩ = some (.int .u64 (v1 o)) := by rw [cell_at h]; cases o <;> rfl
theorem VJr.c2 (h : VJr w a r o) : w.cell? ⟨a, 2, none⟩ = some (.int .u64 (v2 o)) := by rw [cell_at h]; cases o <;> rfl
theorem VJr.c3 (h : VJr w a r o) : w.cell? ⟨a, 3, none⟩ = some (.int .i64 (v3 o)) := by rw [cell_at h]; cases o <;> rfl
theorem VJr.c4 (h : VJr w a r o) : w.cell? ⟨a, 4, none⟩ = some (.int .i64 (v4 o)) := by rw [cell_at h]; cases o <;> rfl
theorem VJr.c5 (h : VJr w a r o) : w.cell? ⟨a, 5, none⟩ = some (.int .i64 (v5 o)) := by rw [cell_at h]; cases o <;> rfl
theorem VJr.c6 (h : VJr w a r o) : w.cell? ⟨a, 6, none⟩ = some (.int .u64 0) := by rw [cell_at h]; cases o <;> rfl
theorem VJr.sl (h : VJr w a r o) (x : Nat × Nat × Nat × Nat) (k : Nat) : VJr (slW w a x k) a r (some (x, k)) := by
 unfold VJr at h ⊢
 have h1 := heap_setCell_at (i := 1) h (.int .u64 (x.1 : Int))
 have h2 := heap_setCell_at (i := 2) h1 (.int .u64 (x.2.1 : Int))
 have h3 := heap_setCell_at (i := 3) h2 (.int .i64 (x.2.2.1 : Int))
 have h4 := heap_setCell_at (i := 4) h3 (.int .i64 (x.2.2.2 : Int))
 have h5 := heap_setCell_at (i := 5) h4 (.int .i64 (k : Int))
 rw [h5]
 cases o <;> simp [VCells]
theorem VJr.found {x : (Nat × Nat × Nat × Nat) × Nat} (h : VJr w a r (some x)) : Jr 136 (w.setCell ⟨a, 6, none⟩ (.int .u64 (x.1.2.1 : Int))) a r (slotJ x.1 x.2) := by
 unfold VJr at h
 unfold Jr
 rw [heap_setCell_at h]
 simp [VCells, JCells, slotJ]
end
end Go.Proofs.YthambopnmhkeeaaGreat

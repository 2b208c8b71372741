/- TokenStops: the walk. -/
import Derived.Test.YtbblmpibekkbfaaDoorTWalks
import Derived.Test.YtbblmpibekkbfaaDoorTStopsM
namespace Go.Proofs.YtbblmpibekkbfaaDoor
open Go.RowKit

set_option maxRecDepth 100000 in
set_option maxHeartbeats 4000000 in
theorem tokstops_walk (s : ByteArray) (n : Int) (w : World) (hT : TabsT w) (hs : s.size ≤ maxLen) (hn : -9223372036854775808 ≤ n ∧ n ≤ 9223372036854775807) : Calls Tryd.prog 7 #[.string s, .int .i64 n] w fun e w' => e = .returned (.bool true) ∧ Below w.heap.size w w' := by
  have HT := Lib.hid hT
  clear hT
  have CS := Lib.hid (shown11_any w HT.out)
  unfold maxLen at hs
  by_cases h1 : s.size ≤ 600
  · have C0 := Lib.hid (fun (T : ByteArray) W (hW : Below w.heap.size w W) (hz : T.size ≤ 10000) => ptokens_any T W (HT.out.below hW) hz)
    have CT := Lib.hid (fun (T : ByteArray) W (hW : Below w.heap.size w W) (hz : T.size ≤ 10000) => pterms_any T W (HT.out.below hW) hz)
    have CA := Lib.hid (C0.out s)
    go_enter Tryd.func7, Tryd.ntmps7
    go_wp2_with fail
    refine CS.out.mono ?_
    rintro e w1 ⟨rfl, hb⟩
    have H1 := Lib.hid hb
    clear hb CS
    go_upto_if 26 with fail
    have hwl := lit_rdT (w := w1) (cs := #[.string ⟨#[97]⟩, .string ⟨#[97, 110]⟩, .string ⟨#[97, 110, 100]⟩, .string ⟨#[97, 114, 101]⟩, .string ⟨#[97, 115]⟩, .string ⟨#[97, 116]⟩, .string ⟨#[98, 101]⟩, .string ⟨#[98, 121]⟩, .string ⟨#[102, 111, 114]⟩, .string ⟨#[105, 110]⟩, .string ⟨#[105, 115]⟩, .string ⟨#[105, 116]⟩, .string ⟨#[111, 102]⟩, .string ⟨#[111, 110]⟩, .string ⟨#[111, 114]⟩, .string ⟨#[116, 104, 101]⟩, .string ⟨#[116, 111]⟩, .string ⟨#[119, 105, 116, 104]⟩, .string ⟨#[97, 97, 97, 97, 97, 97, 97, 97, 97, 97, 98, 98, 98, 98, 98, 98, 98, 98, 98, 98, 99, 99, 99, 99, 99, 99, 99, 99, 99, 99, 100, 100, 100, 100, 100, 100, 100, 100, 100, 100, 120]⟩]) (t := 9) (n := 19) (c := 19) stops19 rfl rfl
    have hbl := below_lit (w := w1) (.cells #[.string ⟨#[97]⟩, .string ⟨#[97, 110]⟩, .string ⟨#[97, 110, 100]⟩, .string ⟨#[97, 114, 101]⟩, .string ⟨#[97, 115]⟩, .string ⟨#[97, 116]⟩, .string ⟨#[98, 101]⟩, .string ⟨#[98, 121]⟩, .string ⟨#[102, 111, 114]⟩, .string ⟨#[105, 110]⟩, .string ⟨#[105, 115]⟩, .string ⟨#[105, 116]⟩, .string ⟨#[111, 102]⟩, .string ⟨#[111, 110]⟩, .string ⟨#[111, 114]⟩, .string ⟨#[116, 104, 101]⟩, .string ⟨#[116, 111]⟩, .string ⟨#[119, 105, 116, 104]⟩, .string ⟨#[97, 97, 97, 97, 97, 97, 97, 97, 97, 97, 98, 98, 98, 98, 98, 98, 98, 98, 98, 98, 99, 99, 99, 99, 99, 99, 99, 99, 99, 99, 100, 100, 100, 100, 100, 100, 100, 100, 100, 100, 120]⟩] 9)
    generalize w1.alloc (.cells #[.string ⟨#[97]⟩, .string ⟨#[97, 110]⟩, .string ⟨#[97, 110, 100]⟩, .string ⟨#[97, 114, 101]⟩, .string ⟨#[97, 115]⟩, .string ⟨#[97, 116]⟩, .string ⟨#[98, 101]⟩, .string ⟨#[98, 121]⟩, .string ⟨#[102, 111, 114]⟩, .string ⟨#[105, 110]⟩, .string ⟨#[105, 115]⟩, .string ⟨#[105, 116]⟩, .string ⟨#[111, 102]⟩, .string ⟨#[111, 110]⟩, .string ⟨#[111, 114]⟩, .string ⟨#[116, 104, 101]⟩, .string ⟨#[116, 111]⟩, .string ⟨#[119, 105, 116, 104]⟩, .string ⟨#[97, 97, 97, 97, 97, 97, 97, 97, 97, 97, 98, 98, 98, 98, 98, 98, 98, 98, 98, 98, 99, 99, 99, 99, 99, 99, 99, 99, 99, 99, 100, 100, 100, 100, 100, 100, 100, 100, 100, 100, 120]⟩] 9) = wl at *
    have HW := Lib.hid hwl
    have HBl := Lib.hid (below_nextT H1.out hbl)
    clear hwl hbl
    generalize w1.heap.size = g1 at *
    have hm : -18 ≤ n.tmod 19 ∧ n.tmod 19 ≤ 18 := by
      have := Int.natAbs_tmod n 19
      have h2 : n.natAbs % (19 : Int).natAbs < 19 := Nat.mod_lt _ (by decide)
      omega
    generalize n.tmod 19 = m at *
    go_cut [7] (fun u wx => ∃ k : Nat, k < 19 ∧ u = .int .i64 (k : Int) ∧ wx = wl)
    case first =>
      by_cases h0 : m < 0
      · have hng : IntKind.i64.wrap (-m) = -m := IntWalk.i64_in _ (by omega)
        go_wp2
        go_meet
        exact ⟨(-m).toNat, by omega, by rw [Int.toNat_of_nonneg (by omega)], rfl⟩
      · go_wp2
        go_meet
        exact ⟨m.toNat, by omega, by rw [Int.toNat_of_nonneg (by omega)], rfl⟩
    case rest =>
      obtain ⟨k, hk, rfl, rfl⟩ := hcut
      obtain ⟨ao, c, hv, hc⟩ := HW.out
      obtain ⟨g, off, e, hg, x0⟩ := hc k (by rw [stops19_len]; exact hk)
      injection hv with e1 e2 e3
      rw [e] at e1
      injection e1 with e1
      injection e1 with e1 e4 e5
      subst e1; subst e4
      clear e5 e3 e2 e hc HW
      rw [Nat.zero_add] at x0
      have HX : Hid (stops19[k] ∈ stops19) := List.getElem_mem _
      generalize stops19[k] = X at *
      have hXz : X.size ≤ 41 := stops19_size X HX.out
      have CX := Lib.hid (C0.out (X ++ ⟨#[32]⟩ ++ s ++ ⟨#[32]⟩ ++ X))
      rw [tokL_stops HX.out] at CX
      have hz : (X ++ (⟨#[32]⟩ : ByteArray) ++ s ++ (⟨#[32]⟩ : ByteArray) ++ X).size ≤ 10000 := by
        rw [ByteArray.size_append, ByteArray.size_append, ByteArray.size_append, ByteArray.size_append]
        exact Nat.le_trans (Nat.add_le_add (Nat.add_le_add_right (Nat.add_le_add (Nat.add_le_add_right hXz 1) h1) 1) hXz) (by omega)
      have HZ := Lib.hid hz
      have CXT := Lib.hid (CT.out X)
      rw [trmL_stop HX.out] at CXT
      have hkz : (k : Int) < 19 := by omega
      have hk0 : 0 ≤ (k : Int) := by omega
      have hkn : (k : Int).toNat = k := rfl
      have htl := tokL_len s
      have HAt : Hid (∀ (j : Nat) (x : ByteArray × Int), (tokL s)[j]? = some x → 0 ≤ x.2 ∧ x.2 ≤ 600) := fun j x hx => by
        obtain ⟨hj, rfl⟩ := List.getElem?_eq_some_iff.1 hx
        obtain ⟨a1, a2, a3, a4, _⟩ := tokL_at s j hj
        omega
      clear hz C0 CT
      generalize tokL s = L at *
      go_wp2_with fail
      have hc4 : ¬ 9223372036854775807 < X.size + 1 := by omega
      have hc6 : ¬ 9223372036854775807 < X.size + 1 + s.size := by omega
      have hc7 : ¬ 9223372036854775807 < X.size + 1 + s.size + 1 := by omega
      have hc12 : ¬ 9223372036854775807 < X.size + 1 + s.size + 1 + X.size := by omega
      go_region_held3 (fun W => W.cell? ⟨g1, k, none⟩ = some (.string X))
        (first | exact x0 | assumption)
        (first | (go_at_call 10; refine (CX.out _ (HBl.out.drew) HZ.out).mono ?_; rintro e w8 ⟨v8, rfl, hr8, _, hb8⟩; have x8 : w8.cell? ⟨g1, k, none⟩ = some (.string X) := (hb8.cell (p := ⟨g1, k, none⟩) hg).trans x0))
      have H8 := Lib.hid (below_nextT HBl.out.drew hb8)
      have R8 := Lib.hid hr8
      have hg8 : g1 < w8.heap.size := Nat.lt_of_lt_of_le hg hb8.size
      clear hb8 hr8 x0 CX HZ HBl hg
      go_wp2_with fail
      refine (CA.out _ H8.out (by omega)).mono ?_
      rintro e w9 ⟨v9, rfl, hr9, _, hb9⟩
      have H9 := Lib.hid (below_nextT H8.out hb9)
      have R9 := Lib.hid hr9
      have R8' := Lib.hid (R8.out.below hb9)
      have x9 := (hb9.cell (p := ⟨g1, k, none⟩) hg8).trans x8
      have hg9 : g1 < w9.heap.size := Nat.lt_of_lt_of_le hg8 hb9.size
      clear hb9 hr9 x8 hg8 R8 H8 CA
      obtain ⟨a8, c8, rfl, _⟩ := R8'.out
      obtain ⟨a9, c9, rfl, _⟩ := R9.out
      have hsl : (shiftK 1 L).length = L.length := by unfold shiftK; rw [List.length_map]
      rw [hsl] at R8' ⊢
      have HSl := Lib.hid hsl
      clear hsl
      have hnn : ((L.length : Int) != (L.length : Int)) = false := by simp
      go_wp2_with fail
      go_loopw [10] (fun iv wr => ∃ i : Nat, iv = .int .i64 (i : Int) ∧ i ≤ L.length ∧ Hid (Below w9.heap.size w9 wr)) (fun iv _ => L.length - (intOf iv).toNat)
      case atStart => exact ⟨0, rfl, Nat.zero_le _, Below.refl _ _⟩
      case round =>
        obtain ⟨i, rfl, hi, HB⟩ := hrel
        by_cases hlt : i < L.length
        · have hil : ((i : Nat) : Int) < L.length := by omega
          have h5 : 0 ≤ (i : Int) := by omega
          have h6 : (i : Int).toNat = i := rfl
          obtain ⟨ga, oa, rfl, hga, y0, y1⟩ := R8'.out.at i (by rw [HSl.out]; exact hlt)
          obtain ⟨gb, ob, rfl, hgb, z0, z1⟩ := R9.out.at i hlt
          have hbd := HAt.out i L[i] (List.getElem?_eq_getElem hlt)
          have e0 : (shiftK 1 L)[i]'(by rw [HSl.out]; exact hlt) = ((L[i]).1, (L[i]).2 + 1) := by
            unfold shiftK; rw [List.getElem_map]; rfl
          rw [e0] at y0 y1
          have y0 := (HB.out.cell (p := ⟨ga, _, none⟩) hga).trans y0
          have y1 := (HB.out.cell (p := ⟨ga, _, none⟩) hga).trans y1
          have z0 := (HB.out.cell (p := ⟨gb, _, none⟩) hgb).trans z0
          have z1 := (HB.out.cell (p := ⟨gb, _, none⟩) hgb).trans z1
          clear e0 hga hgb
          generalize (L[i]).1 = T at *
          generalize (L[i]).2 = p at *
          obtain ⟨hp0, hp1⟩ := hbd
          have hq0 : (T.toList == T.toList) = true := by simp
          have hw : IntKind.i64.wrap (p + 1) = p + 1 := IntWalk.i64_in _ (by omega)
          have hq1 : ((p + 1) != (p + 1)) = false := by simp
          go_wp2_with fail
          go_quiet (fail)
          have HBn : Hid (Below w9.heap.size w9 (wr.drewN nq)) := by have := HB.out; exact ⟨this.os, this.tape, this.output, this.size, this.block⟩
          clear y0 y1 z0 z1
          go_wp2_with fail
          go_roundw
          case rel => exact ⟨i + 1, by go_num, by omega, HBn⟩
          case measure => simp [intOf]; omega
        · obtain rfl : i = L.length := by omega
          have xr := (HB.out.cell (p := ⟨g1, k, none⟩) hg9).trans x9
          have HBf := Lib.hid (below_nextT H9.out HB.out)
          go_wp2_with fail
          refine (CXT.out _ HBf.out (by omega)).mono ?_
          rintro e wf ⟨vf, rfl, hrf, hbf⟩
          have HF := Lib.hid (below_nextT HBf.out hbf)
          obtain ⟨af, cf, rfl, _⟩ := hrf
          clear hbf
          go_wp2
          go_ret
          exact ⟨rfl, HF.out⟩
  · go_enter Tryd.func7, Tryd.ntmps7
    go_wp2_with fail
    refine CS.out.mono ?_
    rintro e w1 ⟨rfl, hb⟩
    have H1 := Lib.hid hb
    clear hb
    go_wp2
    go_ret
    exact ⟨rfl, H1.out⟩
end Go.Proofs.YtbblmpibekkbfaaDoor

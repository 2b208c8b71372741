/- What noughts, wide, toWide, a slot's text and readSlot answer. -/
import Derived.Test.YtepfcaopboenpaaGreatZJBase
import Derived.Test.YtepfcaopboenpaaGreatZFBase
import Derived.Test.YtepfcaopboenpaaGreatZFHeadR
import Derived.Handy

namespace Go.Proofs.YtepfcaopboenpaaGreat
open Go.RowKit
open Fr (bs fixL nmAt fix_name fixed_to bs_append bs_len toFixed_at or64 nmAt_lt bs_data str_len bs_ext)

theorem noughts_bs : noughts = bs (List.replicate 256 0) := by
  unfold noughts bs; rw [Fr.repeat_zero]

set_option maxRecDepth 100000 in
set_option maxHeartbeats 400000 in
theorem jnoughts_to (x : Int) (T : ByteArray) (w : World) (C : Hid (Calls Tryz.prog 46 #[.string ⟨#[0]⟩, .int .i64 x] w fun e w' => e = .returned (.string T) ∧ Below w.heap.size w w')) :
    Calls Tryz.prog 50 #[.int .i64 x] w fun e w' => e = .returned (.string T) ∧ Below w.heap.size w w' := by
  go_enter Tryz.func50, Tryz.ntmps50
  go_wp2_with fail
  refine C.out.mono ?_
  rintro e w1 ⟨rfl, hb⟩
  have HB := Lib.hid hb; clear hb
  go_wp2
  go_ret
  exact ⟨rfl, HB.out⟩
theorem jnoughts_any (x : Int) (c : Nat) (w : World) (h : x = (c : Int)) (h2 : 2 ≤ c) (hc : c ≤ 1000) :
    Calls Tryz.prog 50 #[.int .i64 x] w fun e w' => e = .returned (.string (bs (List.replicate c 0))) ∧ Below w.heap.size w w' :=
  jnoughts_to x _ w (Fr.noughts_any x c w h h2 hc)
theorem jnoughts_all (w : World) : Calls Tryz.prog 50 #[.int .i64 256] w fun e w' => e = .returned (.string noughts) ∧ Below w.heap.size w w' := by
  rw [noughts_bs]; exact jnoughts_any 256 256 w rfl (by omega) (by omega)

def wideL (v : Nat) : List UInt8 := fixL (v % 4294967296) ++ fixL (v / 4294967296)
theorem wide_name (v : Nat) : ∃ t, t.size ≤ 8 ∧ Hid (bs (wideL v) = t) := ⟨_, Nat.le_refl _, rfl⟩

set_option maxRecDepth 100000 in
set_option maxHeartbeats 400000 in
theorem wide_any (v : Nat) (t : ByteArray) (w : World) (hv : v < 18446744073709551616) (ht : Hid (bs (wideL v) = t)) :
    Calls Tryz.prog 78 #[.int .u64 (v : Int)] w fun e w' => e = .returned (.string t) ∧ Below w.heap.size w w' := by
  obtain ⟨t1, z1, H1⟩ := fix_name (v % 4294967296)
  obtain ⟨t2, z2, H2⟩ := fix_name (v / 4294967296)
  have HT : Hid (t1 ++ t2 = t) := by show _ = _; rw [← ht.out, ← H1.out, ← H2.out, bs_append]; rfl
  clear ht
  go_enter Tryz.func78, Tryz.ntmps78
  go_wp2_with fail
  refine (fixed_to _ _ _ _ (by omega) (by omega) H1).mono ?_
  rintro e w2 ⟨rfl, hb2⟩
  have HB2 := Lib.hid hb2; clear hb2
  go_wp2_with fail
  refine (fixed_to _ _ _ _ (by omega) (by omega) H2).mono ?_
  rintro e w3 ⟨rfl, hb3⟩
  have HB3 : Hid (Below w.heap.size w w3) := HB2.out.trans (hb3.mono HB2.out.size)
  clear hb3 HB2
  go_wp2
  go_ret
  exact ⟨by rw [HT.out]; rfl, HB3.out⟩

set_option maxRecDepth 100000 in
set_option maxHeartbeats 400000 in
theorem toWide_any (l : List UInt8) (k : Nat) (T T2 : ByteArray) (w : World) (hl : k + 8 ≤ l.length) (hm : l.length ≤ 1000) (h1 : T = bs (l.drop k)) (h2 : T2 = bs (l.drop (k + 8))) :
    Calls Tryz.prog 94 #[.string T] w fun e w' => e = .returned (.tuple #[.int .u64 ((wideAt l k : Nat) : Int), .string T2]) ∧ Below w.heap.size w w' := by
  obtain ⟨T3, HT3⟩ : ∃ T3, Hid (T3 = bs (l.drop (k + 4))) := ⟨_, rfl⟩
  have h2' : T2 = bs (l.drop (k + 4 + 4)) := by rw [h2]
  have F1 := Lib.hid (fun W => toFixed_at W h1 HT3.out (by omega) (by omega))
  have F2 := Lib.hid (fun W => toFixed_at W HT3.out h2' (by omega) (by omega))
  have x1 := nmAt_lt l k
  have x2 := nmAt_lt l (k + 4)
  have HW : Hid (bits .or .u64 ((nmAt l (k + 4) : Int) * 4294967296) (nmAt l k : Int) = (wideAt l k : Int)) := or64 _ _ x2 x1
  clear h1 h2 h2'
  generalize wideAt l k = wd at *
  generalize nmAt l k = lo at *
  generalize nmAt l (k + 4) = hi at *
  go_enter Tryz.func94, Tryz.ntmps94
  go_wp2_with fail
  refine (F1.out _).mono ?_
  rintro e w2 ⟨rfl, hb2⟩
  have HB2 := Lib.hid hb2; clear hb2
  go_wp2_with fail
  refine (F2.out _).mono ?_
  rintro e w3 ⟨rfl, hb3⟩
  have HB3 : Hid (Below w.heap.size w w3) := HB2.out.trans (hb3.mono HB2.out.size)
  clear hb3 HB2
  go_wp2
  go_ret2
  exact ⟨by rw [← HW.out]; rfl, HB3.out⟩

theorem held_four {w0 W W' : World} {g : Nat} {v0 v1 v2 v3 : Value} (hg : g < w0.heap.size) (h : Below w0.heap.size w0 W ∧ W.cell? ⟨g, 0, none⟩ = some v0 ∧ W.cell? ⟨g, 1, none⟩ = some v1 ∧ W.cell? ⟨g, 2, none⟩ = some v2 ∧ W.cell? ⟨g, 3, none⟩ = some v3) (hb : Below W.heap.size W W') :
    Below w0.heap.size w0 W' ∧ W'.cell? ⟨g, 0, none⟩ = some v0 ∧ W'.cell? ⟨g, 1, none⟩ = some v1 ∧ W'.cell? ⟨g, 2, none⟩ = some v2 ∧ W'.cell? ⟨g, 3, none⟩ = some v3 := by
  have hl : g < W.heap.size := Nat.lt_of_lt_of_le hg h.1.size
  exact ⟨h.1.trans (hb.mono h.1.size), (hb.cell (p := ⟨g, 0, none⟩) hl).trans h.2.1, (hb.cell (p := ⟨g, 1, none⟩) hl).trans h.2.2.1, (hb.cell (p := ⟨g, 2, none⟩) hl).trans h.2.2.2.1, (hb.cell (p := ⟨g, 3, none⟩) hl).trans h.2.2.2.2⟩
theorem u32_in (x : Int) (h : 0 ≤ x ∧ x < 4294967296) : IntKind.u32.wrap x = x := by
  simp [IntKind.wrap, IntKind.bits, IntKind.signed]; omega
theorem half_parts (e s log p : Nat) : halfL e s log p = [67, 68, 88, 83] ++ wideL e ++ wideL s ++ fixL log ++ fixL p ++ List.replicate 100 0 := by
  unfold halfL wideL; simp only [List.append_assoc]

set_option maxRecDepth 100000 in
set_option maxHeartbeats 1000000 in
theorem text_any (e s log p : Nat) (w : World) (he : e < 18446744073709551616) (hs : s < 18446744073709551616) (hl : log ≤ 4096) (hp : p ≤ 4096) :
    Calls Tryz.prog 52 #[.agg #[.int .u64 (e : Int), .int .u64 (s : Int), .int .i64 (log : Int), .int .i64 (p : Int)]] w fun r w' => r = .returned (.string (slotB e s log p)) ∧ Below w.heap.size w w' := by
  obtain ⟨WT, hWT⟩ : ∃ f : Nat → ByteArray, f = fun v => bs (wideL v) := ⟨_, rfl⟩
  obtain ⟨FT, hFT⟩ : ∃ f : Int → ByteArray, f = fun v => bs (fixL v.toNat) := ⟨_, rfl⟩
  have z1 : (WT e).size ≤ 8 := by rw [hWT]; exact Nat.le_refl _
  have z2 : (WT s).size ≤ 8 := by rw [hWT]; exact Nat.le_refl _
  have z3 : (FT (log : Int)).size ≤ 4 := by rw [hFT]; exact Nat.le_refl _
  have z4 : (FT (p : Int)).size ≤ 4 := by rw [hFT]; exact Nat.le_refl _
  have CW : Hid (∀ (v : Nat) (W : World), v < 18446744073709551616 → Calls Tryz.prog 78 #[.int .u64 (v : Int)] W fun r w' => r = .returned (.string (WT v)) ∧ Below W.heap.size W w') := fun v W hv => wide_any v _ W hv (by rw [hWT]; rfl)
  have CF : Hid (∀ (x : Int) (W : World), 0 ≤ x → x < 4294967296 → Calls Tryz.prog 79 #[.int .u32 x] W fun r w' => r = .returned (.string (FT x)) ∧ Below W.heap.size W w') := fun x W h0 h1 => fixed_to x x.toNat _ W (by omega) (by omega) (by rw [hFT]; rfl)
  obtain ⟨X, hX⟩ : ∃ X, ⟨#[67, 68, 88, 83]⟩ ++ WT e ++ WT s ++ FT (log : Int) ++ FT (p : Int) = X := ⟨_, rfl⟩
  have hXe : X = bs ([67, 68, 88, 83] ++ wideL e ++ wideL s ++ fixL log ++ fixL p) := by
    rw [← hX, hWT, hFT]
    show ((((bs [67, 68, 88, 83] ++ bs (wideL e)) ++ bs (wideL s)) ++ bs (fixL log)) ++ bs (fixL p)) = _
    rw [bs_append, bs_append, bs_append, bs_append]
  have zX : X.size = 28 := by rw [hXe, bs_len]; rfl
  obtain ⟨Z, hZ⟩ : ∃ Z, bs (List.replicate 100 0) = Z := ⟨_, rfl⟩
  clear hWT hFT
  have CN := Lib.hid (fun W => jnoughts_any (128 - (X.size : Int)) 100 W (by omega) (by omega) (by omega))
  rw [hZ] at CN
  have zZ : Z.size ≤ 100 := by rw [← hZ, bs_len, List.length_replicate]; exact Nat.le_refl _
  have HF : Hid ((X ++ Z) ++ (X ++ Z) = slotB e s log p) := by
    show _ = _
    unfold slotB
    rw [half_parts, hXe, ← hZ, bs_append, bs_append]
  have z0 : X.size ≤ 28 := by omega
  have z0' : 28 ≤ X.size := by omega
  clear hXe zX hZ
  obtain ⟨w0, hw0⟩ : ∃ w0, w.alloc (.cells #[.int .u64 (e : Int), .int .u64 (s : Int), .int .i64 (log : Int), .int .i64 (p : Int)] 77) = w0 := ⟨_, rfl⟩
  have hb0 : w0.heap[w.heap.size]? = some (.cells #[.int .u64 (e : Int), .int .u64 (s : Int), .int .i64 (log : Int), .int .i64 (p : Int)] 77 (0, 0)) := by rw [← hw0, heap_alloc_new]
  have HB0 : Hid (Below w.heap.size w w0) := by rw [← hw0]; exact (Below.refl _ _).alloc (Nat.le_refl _) _
  have c0 : w0.cell? ⟨w.heap.size, 0, none⟩ = some (.int .u64 (e : Int)) := by rw [cell_at hb0]; rfl
  have c1 : w0.cell? ⟨w.heap.size, 1, none⟩ = some (.int .u64 (s : Int)) := by rw [cell_at hb0]; rfl
  have c2 : w0.cell? ⟨w.heap.size, 2, none⟩ = some (.int .i64 (log : Int)) := by rw [cell_at hb0]; rfl
  have c3 : w0.cell? ⟨w.heap.size, 3, none⟩ = some (.int .i64 (p : Int)) := by rw [cell_at hb0]; rfl
  have hlt : w.heap.size < w0.heap.size := (Array.getElem?_eq_some_iff.1 hb0).1
  clear hb0
  have HW0 := Lib.hid hw0; clear hw0
  have b1 : ¬ 9223372036854775807 < 4 + (WT e).size := by omega
  have b2 : ¬ 9223372036854775807 < 4 + (WT e).size + (WT s).size := by omega
  have b3 : ¬ 9223372036854775807 < 4 + (WT e).size + (WT s).size + (FT (log : Int)).size := by omega
  have b4 : ¬ 9223372036854775807 < 4 + (WT e).size + (WT s).size + (FT (log : Int)).size + (FT (p : Int)).size := by omega
  have wl : IntKind.u32.wrap (log : Int) = (log : Int) := u32_in _ (by omega)
  have wp : IntKind.u32.wrap (p : Int) = (p : Int) := u32_in _ (by omega)
  go_enter Tryz.func52, Tryz.ntmps52
  go_wp2_with fail
  rw [HW0.out]
  go_region_held3 (fun W => Below w0.heap.size w0 W ∧ W.cell? ⟨w.heap.size, 0, none⟩ = some (.int .u64 (e : Int)) ∧ W.cell? ⟨w.heap.size, 1, none⟩ = some (.int .u64 (s : Int)) ∧ W.cell? ⟨w.heap.size, 2, none⟩ = some (.int .i64 (log : Int)) ∧ W.cell? ⟨w.heap.size, 3, none⟩ = some (.int .i64 (p : Int)))
    (first | exact ⟨(Below.refl _ _).drew, c0, c1, c2, c3⟩ | exact held_four hlt (by assumption) (by assumption) | exact held_four hlt (by assumption) (Below.refl _ _))
    (first
      | (go_at_call 78; refine (CW.out _ _ ?_).mono ?_; (first | exact he | exact hs); rintro r w' ⟨rfl, hbx⟩)
      | (go_at_call 79; refine (CF.out _ _ ?_ ?_).mono ?_; omega; omega; rintro r w' ⟨rfl, hbx⟩))
  rename_i hHeld
  have HB1 : Hid (Below w.heap.size w w') := HB0.out.trans (hHeld.1.mono (Nat.le_of_lt hlt))
  clear hHeld hbx b1 b2 b3 b4 wl wp c0 c1 c2 c3
  go_wp2_with fail
  refine (CN.out _).mono ?_
  rintro r w2 ⟨rfl, hb2⟩
  have HB2 : Hid (Below w.heap.size w w2) := HB1.out.trans (hb2.mono HB1.out.size)
  clear hb2 HB1
  go_wp2
  go_ret
  exact ⟨by rw [← HF.out]; rfl, HB2.out⟩

theorem rdSlot_iff (t : ByteArray) (n : Nat) (x : Nat × Nat × Nat × Nat) : rdSlot t n = some x ↔ (50 ≤ nmAt t.data.toList 20 ∧ nmAt t.data.toList 20 + 3 ≤ n ∧ nmAt t.data.toList 24 < nmAt t.data.toList 20 ∧ t = slotB (wideAt t.data.toList 4) (wideAt t.data.toList 12) (nmAt t.data.toList 20) (nmAt t.data.toList 24)) ∧ x = (wideAt t.data.toList 4, wideAt t.data.toList 12, nmAt t.data.toList 20, nmAt t.data.toList 24) := by
  unfold rdSlot
  show (if _ then _ else _) = _ ↔ _
  split
  · rename_i h; simp only [Option.some.injEq]; exact ⟨fun e => ⟨h, e.symm⟩, fun e => e.2.symm⟩
  · rename_i h; exact ⟨fun e => (by cases e), fun e => absurd e.1 h⟩
theorem wideAt_lt (l : List UInt8) (i : Nat) : wideAt l i < 18446744073709551616 := by
  have h1 := nmAt_lt l i; have h2 := nmAt_lt l (i + 4); unfold wideAt; omega
/-- A slot as a value. -/
def slotV (x : Option (Nat × Nat × Nat × Nat)) : Value := match x with
  | none => .tuple #[.agg #[.int .u64 0, .int .u64 0, .int .i64 0, .int .i64 0], .bool false]
  | some x => .tuple #[.agg #[.int .u64 (x.1 : Int), .int .u64 (x.2.1 : Int), .int .i64 (x.2.2.1 : Int), .int .i64 (x.2.2.2 : Int)], .bool true]

theorem results_slot (tmps : Array Value) (g : Nat) (Y : World) (b : Bool) (x0 x1 x2 x3 : Int) (h4 : tmps.getD 4 undef = .pointer (some ⟨g, 0, none⟩)) (h5 : tmps.getD 5 undef = .bool b)
    (hY : Y.heap[g]? = some (.cells #[.int .u64 x0, .int .u64 x1, .int .i64 x2, .int .i64 x3] 77 (0, 0))) :
    (results Tryz.f80 tmps).run Tryz.prog Y = .ok (.tuple #[.agg #[.int .u64 x0, .int .u64 x1, .int .i64 x2, .int .i64 x3], .bool b]) Y := by
  have y0 : Y.cell? ⟨g, 0, none⟩ = some (.int .u64 x0) := by rw [cell_at hY]; rfl
  have y1 : Y.cell? ⟨g, 1, none⟩ = some (.int .u64 x1) := by rw [cell_at hY]; rfl
  have y2 : Y.cell? ⟨g, 2, none⟩ = some (.int .i64 x2) := by rw [cell_at hY]; rfl
  have y3 : Y.cell? ⟨g, 3, none⟩ = some (.int .i64 x3) := by rw [cell_at hY]; rfl
  rw [Array.getD_eq_getD_getElem?] at h4 h5
  simp [results, Tryz.results80, go_sem, h4, h5, y0, y1, y2, y3]

set_option maxRecDepth 100000 in
set_option maxHeartbeats 2000000 in
theorem readSlot_any (t : ByteArray) (n : Nat) (w : World) (ht : t.size = 256) (hn : n ≤ 4096) :
    Calls Tryz.prog 80 #[.string t, .int .i64 (n : Int)] w fun r w' => r = .returned (slotV (rdSlot t n)) ∧ Below w.heap.size w w' := by
  obtain ⟨l, hl⟩ : ∃ l, t.data.toList = l := ⟨_, rfl⟩
  have hll : l.length = 256 := by rw [← hl, str_len, ht]
  have HI := Lib.hid (rdSlot_iff t n)
  rw [hl] at HI
  obtain ⟨T1, hT1⟩ : ∃ T, t.extract 4 t.size = T := ⟨_, rfl⟩
  have h1 : T1 = bs (l.drop 4) := by rw [← hT1, Fr.ext_eq t l hl]
  obtain ⟨T2, h2⟩ : ∃ T2, T2 = bs (l.drop 12) := ⟨_, rfl⟩
  obtain ⟨T3, h3⟩ : ∃ T3, T3 = bs (l.drop 20) := ⟨_, rfl⟩
  obtain ⟨T4, h4⟩ : ∃ T4, T4 = bs (l.drop 24) := ⟨_, rfl⟩
  obtain ⟨T5, h5⟩ : ∃ T5, T5 = bs (l.drop 28) := ⟨_, rfl⟩
  have F1 := Lib.hid (fun W => toWide_any l 4 T1 T2 W (by omega) (by omega) h1 h2)
  have F2 := Lib.hid (fun W => toWide_any l 12 T2 T3 W (by omega) (by omega) h2 h3)
  have F3 := Lib.hid (fun W => toFixed_at (k := 20) W h3 h4 (by omega) (by omega))
  have F4 := Lib.hid (fun W => toFixed_at (k := 24) W h4 h5 (by omega) (by omega))
  have x4 := wideAt_lt l 4; have x12 := wideAt_lt l 12; have x20 := nmAt_lt l 20; have x24 := nmAt_lt l 24
  clear h1 h2 h3 h4 h5 hl hll
  generalize wideAt l 4 = e at *
  generalize wideAt l 12 = s at *
  generalize nmAt l 20 = log at *
  generalize nmAt l 24 = p at *
  have i4 : (4 : Int) ≤ (t.size : Int) := by omega
  have CF := Lib.hid (fun W => fits_any (w := W) (log : Int) n hn)
  have CT := Lib.hid (fun W (h : log ≤ 4096) (h2 : p ≤ 4096) => text_any e s log p W x4 x12 h h2)
  clear ht
  obtain ⟨A0, hA0⟩ : ∃ A0, w.alloc (.cells #[.int .u64 0, .int .u64 0, .int .i64 0, .int .i64 0] 77) = A0 := ⟨_, rfl⟩
  have hr0 : A0.heap[w.heap.size]? = some (.cells #[.int .u64 0, .int .u64 0, .int .i64 0, .int .i64 0] 77 (0, 0)) := by rw [← hA0, heap_alloc_new]
  have HB0 : Hid (Below w.heap.size w A0) := by rw [← hA0]; exact (Below.refl _ _).alloc (Nat.le_refl _) _
  have hz0 : w.heap.size < A0.heap.size := (Array.getElem?_eq_some_iff.1 hr0).1
  have HR0 := Lib.hid hr0; clear hr0
  have HA0 := Lib.hid hA0; clear hA0
  go_enter Tryz.func80, Tryz.ntmps80
  go_wp2_with fail
  rw [HA0.out]
  refine (F1.out _).mono ?_
  rintro r w1 ⟨rfl, hb1⟩
  have HB1 := Lib.hid hb1; clear hb1
  go_wp2_with fail
  refine (F2.out _).mono ?_
  rintro r w2 ⟨rfl, hb2⟩
  have HB2 := Lib.hid (HB1.out.trans (hb2.mono HB1.out.size)); clear hb2 HB1
  go_wp2_with fail
  refine (F3.out _).mono ?_
  rintro r w3 ⟨rfl, hb3⟩
  have HB3 := Lib.hid (HB2.out.trans (hb3.mono HB2.out.size)); clear hb3 HB2
  go_wp2_with fail
  refine (F4.out _).mono ?_
  rintro r w4 ⟨rfl, hb4⟩
  have HB4 := Lib.hid (HB3.out.trans (hb4.mono HB3.out.size)); clear hb4 HB3
  have hz4 := HB4.out.size
  obtain ⟨X, hX⟩ : ∃ X, w4.alloc (.cells #[.int .u64 (e : Int), .int .u64 (s : Int), .int .i64 (log : Int), .int .i64 (p : Int)] 77) = X := ⟨_, rfl⟩
  have hXh : X.heap[w4.heap.size]? = some (.cells #[.int .u64 (e : Int), .int .u64 (s : Int), .int .i64 (log : Int), .int .i64 (p : Int)] 77 (0, 0)) := by rw [← hX, heap_alloc_new]
  have HXB : Hid (Below A0.heap.size A0 X) := by rw [← hX]; exact HB4.out.alloc hz4 _
  have k0 : X.cell? ⟨w4.heap.size, 0, none⟩ = some (.int .u64 (e : Int)) := by rw [cell_at hXh]; rfl
  have k1 : X.cell? ⟨w4.heap.size, 1, none⟩ = some (.int .u64 (s : Int)) := by rw [cell_at hXh]; rfl
  have k2 : X.cell? ⟨w4.heap.size, 2, none⟩ = some (.int .i64 (log : Int)) := by rw [cell_at hXh]; rfl
  have k3 : X.cell? ⟨w4.heap.size, 3, none⟩ = some (.int .i64 (p : Int)) := by rw [cell_at hXh]; rfl
  have hzX : w4.heap.size < X.heap.size := (Array.getElem?_eq_some_iff.1 hXh).1
  have hrX := (HXB.out.block _ hz0).trans HR0.out
  have r0 : X.cell? ⟨w.heap.size, 0, none⟩ = some (.int .u64 0) := by rw [cell_at hrX]; rfl
  have r1 : X.cell? ⟨w.heap.size, 1, none⟩ = some (.int .u64 0) := by rw [cell_at hrX]; rfl
  have r2 : X.cell? ⟨w.heap.size, 2, none⟩ = some (.int .i64 0) := by rw [cell_at hrX]; rfl
  have r3 : X.cell? ⟨w.heap.size, 3, none⟩ = some (.int .i64 0) := by rw [cell_at hrX]; rfl
  have q0 : X.frozen? ⟨w.heap.size, 0, none⟩ = false := free_at hrX 0
  have q1 : X.frozen? ⟨w.heap.size, 1, none⟩ = false := free_at hrX 1
  have q2 : X.frozen? ⟨w.heap.size, 2, none⟩ = false := free_at hrX 2
  have q3 : X.frozen? ⟨w.heap.size, 3, none⟩ = false := free_at hrX 3
  have HWX : Hid (Below w.heap.size w X) := HB0.out.trans (HXB.out.mono (Nat.le_of_lt hz0))
  have HRX := Lib.hid hrX
  clear hXh hrX
  have HX := Lib.hid hX; clear hX
  have fin : Hid (∀ (X5 : World) (x0 x1 x2 x3 : Int) (b : Bool) (tmps : Array Value), Below X.heap.size X X5 → tmps.getD 4 undef = .pointer (some ⟨w.heap.size, 0, none⟩) → tmps.getD 5 undef = .bool b →
      (rdSlot t n = none ∧ x0 = 0 ∧ x1 = 0 ∧ x2 = 0 ∧ x3 = 0 ∧ b = false) ∨ (rdSlot t n = some (e, s, log, p) ∧ x0 = (e : Int) ∧ x1 = (s : Int) ∧ x2 = (log : Int) ∧ x3 = (p : Int) ∧ b = true) →
      bodyPost Tryz.prog Tryz.f80 (fun r w' => r = .returned (slotV (rdSlot t n)) ∧ Below w.heap.size w w') .ret ⟨tmps, []⟩ ((((X5.setCell ⟨w.heap.size, 0, none⟩ (.int .u64 x0)).setCell ⟨w.heap.size, 1, none⟩ (.int .u64 x1)).setCell ⟨w.heap.size, 2, none⟩ (.int .i64 x2)).setCell ⟨w.heap.size, 3, none⟩ (.int .i64 x3))) := by
    intro X5 x0 x1 x2 x3 b tmps h5 ht4 ht5 hc
    have h0 := (h5.block _ (Nat.lt_of_lt_of_le hz0 HXB.out.size)).trans HRX.out
    have h4 := heap_setCell_at (i := 3) (heap_setCell_at (i := 2) (heap_setCell_at (i := 1) (heap_setCell_at (i := 0) h0 (.int .u64 x0)) (.int .u64 x1)) (.int .i64 x2)) (.int .i64 x3)
    refine bodyPost_ret (results_slot tmps w.heap.size _ b x0 x1 x2 x3 ht4 ht5 h4) rfl ⟨?_, ((((HWX.out.trans (h5.mono HWX.out.size)).setCell (Nat.le_refl _) _).setCell (Nat.le_refl _) _).setCell (Nat.le_refl _) _).setCell (Nat.le_refl _) _⟩
    rcases hc with ⟨hr, rfl, rfl, rfl, rfl, rfl⟩ | ⟨hr, rfl, rfl, rfl, rfl, rfl⟩
    · rw [hr]; rfl
    · rw [hr]; rfl
  by_cases hf : 50 ≤ (log : Int) ∧ (log : Int) ≤ (n : Int) - 3
  · have hd : decide (50 ≤ (log : Int) ∧ (log : Int) ≤ (n : Int) - 3) = true := decide_eq_true hf
    rw [hd] at CF
    by_cases hpl : p < log
    · have hpl' : ¬ (log : Int) ≤ (p : Int) := by omega
      have CT2 := Lib.hid (fun W => CT.out W (by omega) (by omega))
      have hzw : w.heap.size < X.heap.size := Nat.lt_of_lt_of_le hz0 HXB.out.size
      by_cases hte : t = slotB e s log p
      · have HR : Hid (rdSlot t n = some (e, s, log, p)) := (HI.out _).2 ⟨⟨by omega, by omega, hpl, hte⟩, rfl⟩
        have hcmp2 : (!((slotB e s log p).toList == t.toList)) = false := by rw [Fr.str_same hte.symm]; rfl
        generalize slotB e s log p = tt at *
        clear hte hd HI CT
        go_wp2_with fail
        rw [HX.out]
        refine (CF.out _).mono ?_
        rintro r w5 ⟨rfl, rfl⟩
        go_wp2_with fail
        refine (CT2.out _).mono ?_
        rintro r w6 ⟨rfl, hb6⟩
        have HB6 := Lib.hid hb6; clear hb6
        have k0' := (HB6.out.cell (p := ⟨w4.heap.size, 0, none⟩) hzX).trans k0
        have k1' := (HB6.out.cell (p := ⟨w4.heap.size, 1, none⟩) hzX).trans k1
        have k2' := (HB6.out.cell (p := ⟨w4.heap.size, 2, none⟩) hzX).trans k2
        have k3' := (HB6.out.cell (p := ⟨w4.heap.size, 3, none⟩) hzX).trans k3
        have r0' := (HB6.out.cell (p := ⟨w.heap.size, 0, none⟩) hzw).trans r0
        have r1' := (HB6.out.cell (p := ⟨w.heap.size, 1, none⟩) hzw).trans r1
        have r2' := (HB6.out.cell (p := ⟨w.heap.size, 2, none⟩) hzw).trans r2
        have r3' := (HB6.out.cell (p := ⟨w.heap.size, 3, none⟩) hzw).trans r3
        have q0' := (HB6.out.frozen (p := ⟨w.heap.size, 0, none⟩) hzw).trans q0
        have q1' := (HB6.out.frozen (p := ⟨w.heap.size, 1, none⟩) hzw).trans q1
        have q2' := (HB6.out.frozen (p := ⟨w.heap.size, 2, none⟩) hzw).trans q2
        have q3' := (HB6.out.frozen (p := ⟨w.heap.size, 3, none⟩) hzw).trans q3
        clear k0 k1 k2 k3 r0 r1 r2 r3 q0 q1 q2 q3
        go_wp2
        exact fin.out _ _ _ _ _ _ _ HB6.out rfl rfl (.inr ⟨HR.out, rfl, rfl, rfl, rfl, rfl⟩)
      · have HR : Hid (rdSlot t n = none) := by
          cases h : rdSlot t n with
          | none => rfl
          | some x => exact absurd ((HI.out _).1 h).1.2.2.2 hte
        have hcmp2 : (!((slotB e s log p).toList == t.toList)) = true := by rw [Fr.str_diff (fun h => hte h.symm)]; rfl
        generalize slotB e s log p = tt at *
        clear hte hd HI CT
        go_wp2_with fail
        rw [HX.out]
        refine (CF.out _).mono ?_
        rintro r w5 ⟨rfl, rfl⟩
        go_wp2_with fail
        refine (CT2.out _).mono ?_
        rintro r w6 ⟨rfl, hb6⟩
        have HB6 := Lib.hid hb6; clear hb6
        have r0' := (HB6.out.cell (p := ⟨w.heap.size, 0, none⟩) hzw).trans r0
        have r1' := (HB6.out.cell (p := ⟨w.heap.size, 1, none⟩) hzw).trans r1
        have r2' := (HB6.out.cell (p := ⟨w.heap.size, 2, none⟩) hzw).trans r2
        have r3' := (HB6.out.cell (p := ⟨w.heap.size, 3, none⟩) hzw).trans r3
        have q0' := (HB6.out.frozen (p := ⟨w.heap.size, 0, none⟩) hzw).trans q0
        have q1' := (HB6.out.frozen (p := ⟨w.heap.size, 1, none⟩) hzw).trans q1
        have q2' := (HB6.out.frozen (p := ⟨w.heap.size, 2, none⟩) hzw).trans q2
        have q3' := (HB6.out.frozen (p := ⟨w.heap.size, 3, none⟩) hzw).trans q3
        clear k0 k1 k2 k3 r0 r1 r2 r3 q0 q1 q2 q3
        go_wp2
        exact fin.out _ _ _ _ _ _ _ HB6.out rfl rfl (.inl ⟨HR.out, rfl, rfl, rfl, rfl, rfl⟩)
    · have HR : Hid (rdSlot t n = none) := by
        cases h : rdSlot t n with
        | none => rfl
        | some x => exact absurd ((HI.out _).1 h).1.2.2.1 hpl
      have hpl' : (log : Int) ≤ (p : Int) := by omega
      clear hd HI CT
      go_wp2_with fail
      rw [HX.out]
      refine (CF.out _).mono ?_
      rintro r w5 ⟨rfl, rfl⟩
      go_wp2
      exact fin.out _ _ _ _ _ _ _ (Below.refl _ _) rfl rfl (.inl ⟨HR.out, rfl, rfl, rfl, rfl, rfl⟩)
  · have HR : Hid (rdSlot t n = none) := by
      cases h : rdSlot t n with
      | none => rfl
      | some x => exact absurd ((HI.out _).1 h).1 (fun h2 => hf (by omega))
    have hd : decide (50 ≤ (log : Int) ∧ (log : Int) ≤ (n : Int) - 3) = false := decide_eq_false hf
    rw [hd] at CF
    clear hd HI CT hf
    go_wp2_with fail
    rw [HX.out]
    refine (CF.out _).mono ?_
    rintro r w5 ⟨rfl, rfl⟩
    go_wp2
    exact fin.out _ _ _ _ _ _ _ (Below.refl _ _) rfl rfl (.inl ⟨HR.out, rfl, rfl, rfl, rfl, rfl⟩)
end Go.Proofs.YtepfcaopboenpaaGreat

/- What noughts, wide, toWide, a slot's text and readSlot answer. -/
import Derived.Test.YtodfcbpimglhdaaZJ
import Derived.Test.YtodfcbpimglhdaaZF
import Derived.Test.YtodfcbpimglhdaaZH
import Derived.Handy
import Derived.BigRegion

namespace Go.Proofs.Ytodfcbpimglhdaa
open Go.RowKit
open Fr (bs fixL nmAt fix_name fixed_to bs_append bs_len toFixed_at or64 nmAt_lt bs_data str_len bs_ext)

theorem noughts_bs : noughts = bs (List.replicate 256 0) := by
  unfold noughts bs; rw [Fr.repeat_zero]

set_option maxRecDepth 100000 in
set_option maxHeartbeats 400000 in
theorem jnoughts_to (x : Int) (T : ByteArray) (w : World) (C : Hid (Calls Try.prog 41 #[.string ⟨#[0]⟩, .int .i64 x] w fun e w' => e = .returned (.string T) ∧ Below w.heap.size w w')) :
    Calls Try.prog 55 #[.int .i64 x] w fun e w' => e = .returned (.string T) ∧ Below w.heap.size w w' := by
  go_enter Try.func55, Try.ntmps55
  go_wp2_with fail
  refine C.out.mono ?_
  rintro e w1 ⟨rfl, hb⟩
  have HB := Lib.hid hb; clear hb
  go_wp2
  go_ret
  exact ⟨rfl, HB.out⟩
theorem jnoughts_any (x : Int) (c : Nat) (w : World) (h : x = (c : Int)) (h2 : 2 ≤ c) (hc : c ≤ 1000) :
    Calls Try.prog 55 #[.int .i64 x] w fun e w' => e = .returned (.string (bs (List.replicate c 0))) ∧ Below w.heap.size w w' :=
  jnoughts_to x _ w (Fr.noughts_any x c w h h2 hc)
theorem jnoughts_all (w : World) : Calls Try.prog 55 #[.int .i64 256] w fun e w' => e = .returned (.string noughts) ∧ Below w.heap.size w w' := by
  rw [noughts_bs]; exact jnoughts_any 256 256 w rfl (by omega) (by omega)

def wideL (v : Nat) : List UInt8 := fixL (v % 4294967296) ++ fixL (v / 4294967296)
theorem wide_name (v : Nat) : ∃ t, t.size ≤ 8 ∧ Hid (bs (wideL v) = t) := ⟨_, Nat.le_refl _, rfl⟩

set_option maxRecDepth 100000 in
set_option maxHeartbeats 400000 in
theorem wide_any (v : Nat) (t : ByteArray) (w : World) (hv : v < 18446744073709551616) (ht : Hid (bs (wideL v) = t)) :
    Calls Try.prog 82 #[.int .u64 (v : Int)] w fun e w' => e = .returned (.string t) ∧ Below w.heap.size w w' := by
  obtain ⟨t1, z1, H1⟩ := fix_name (v % 4294967296)
  obtain ⟨t2, z2, H2⟩ := fix_name (v / 4294967296)
  have HT : Hid (t1 ++ t2 = t) := by show _ = _; rw [← ht.out, ← H1.out, ← H2.out, bs_append]; rfl
  clear ht
  go_enter Try.func82, Try.ntmps82
  go_wp2_with fail
  refine (fixed_to _ _ _ _ (by omega) (by omega) H1).mono ?_
  rintro e w2 ⟨rfl, hb2⟩
  have HB2 := Lib.hid hb2; clear hb2
  go_wp2_with fail
  refine (fixed_to _ _ _ _ (by omega) (by omega) H2).mono ?_
  rintro e w3 ⟨rfl, hb3⟩
  have HB3 : Hid (Below w.heap.size w w3) := HB2.out.trans (hb3.mono HB2.out.size)
  clear hb3 HB2
  go_wp2
  go_ret
  exact ⟨by rw [HT.out]; rfl, HB3.out⟩

set_option maxRecDepth 100000 in
set_option maxHeartbeats 400000 in
theorem toWide_any (l : List UInt8) (k : Nat) (T T2 : ByteArray) (w : World) (hl : k + 8 ≤ l.length) (hm : l.length ≤ 1000) (h1 : T = bs (l.drop k)) (h2 : T2 = bs (l.drop (k + 8))) :
    Calls Try.prog 92 #[.string T] w fun e w' => e = .returned (.tuple #[.int .u64 ((wideAt l k : Nat) : Int), .string T2]) ∧ Below w.heap.size w w' := by
  obtain ⟨T3, HT3⟩ : ∃ T3, Hid (T3 = bs (l.drop (k + 4))) := ⟨_, rfl⟩
  have h2' : T2 = bs (l.drop (k + 4 + 4)) := by rw [h2]
  have F1 := Lib.hid (fun W => toFixed_at W h1 HT3.out (by omega) (by omega))
  have F2 := Lib.hid (fun W => toFixed_at W HT3.out h2' (by omega) (by omega))
  have x1 := nmAt_lt l k
  have x2 := nmAt_lt l (k + 4)
  have HW : Hid (bits .or .u64 ((nmAt l (k + 4) : Int) * 4294967296) (nmAt l k : Int) = (wideAt l k : Int)) := or64 _ _ x2 x1
  clear h1 h2 h2'
  generalize wideAt l k = wd at *
  generalize nmAt l k = lo at *
  generalize nmAt l (k + 4) = hi at *
  go_enter Try.func92, Try.ntmps92
  go_wp2_with fail
  refine (F1.out _).mono ?_
  rintro e w2 ⟨rfl, hb2⟩
  have HB2 := Lib.hid hb2; clear hb2
  go_wp2_with fail
  refine (F2.out _).mono ?_
  rintro e w3 ⟨rfl, hb3⟩
  have HB3 : Hid (Below w.heap.size w w3) := HB2.out.trans (hb3.mono HB2.out.size)
  clear hb3 HB2
  go_wp2
  go_ret2
  exact ⟨by rw [← HW.out]; rfl, HB3.out⟩

theorem held_four {w0 W W' : World} {g : Nat} {v0 v1 v2 v3 : Value} (hg : g < w0.heap.size) (h : Below w0.heap.size w0 W ∧ W.cell? ⟨g, 0, none⟩ = some v0 ∧ W.cell? ⟨g, 1, none⟩ = some v1 ∧ W.cell? ⟨g, 2, none⟩ = some v2 ∧ W.cell? ⟨g, 3, none⟩ = some v3) (hb : Below W.heap.size W W') :
    Below w0.heap.size w0 W' ∧ W'.cell? ⟨g, 0, none⟩ = some v0 ∧ W'.cell? ⟨g, 1, none⟩ = some v1 ∧ W'.cell? ⟨g, 2, none⟩ = some v2 ∧ W'.cell? ⟨g, 3, none⟩ = some v3 := by
  have hl : g < W.heap.size := Nat.lt_of_lt_of_le hg h.1.size
  exact ⟨h.1.trans (hb.mono h.1.size), (hb.cell (p := ⟨g, 0, none⟩) hl).trans h.2.1, (hb.cell (p := ⟨g, 1, none⟩) hl).trans h.2.2.1, (hb.cell (p := ⟨g, 2, none⟩) hl).trans h.2.2.2.1, (hb.cell (p := ⟨g, 3, none⟩) hl).trans h.2.2.2.2⟩
theorem u32_in (x : Int) (h : 0 ≤ x ∧ x < 4294967296) : IntKind.u32.wrap x = x := by
  simp [IntKind.wrap, IntKind.bits, IntKind.signed]; omega
theorem half_parts (e s log p : Nat) : halfL e s log p = [67, 68, 88, 83] ++ wideL e ++ wideL s ++ fixL log ++ fixL p ++ List.replicate 100 0 := by
  unfold halfL wideL; simp only [List.append_assoc]

set_option maxRecDepth 100000 in
set_option maxHeartbeats 1000000 in
theorem text_any (e s log p : Nat) (w : World) (he : e < 18446744073709551616) (hs : s < 18446744073709551616) (hl : log ≤ 4096) (hp : p ≤ 4096) :
    Calls Try.prog 57 #[.agg #[.int .u64 (e : Int), .int .u64 (s : Int), .int .i64 (log : Int), .int .i64 (p : Int)]] w fun r w' => r = .returned (.string (slotB e s log p)) ∧ Below w.heap.size w w' := by
  obtain ⟨WT, hWT⟩ : ∃ f : Nat → ByteArray, f = fun v => bs (wideL v) := ⟨_, rfl⟩
  obtain ⟨FT, hFT⟩ : ∃ f : Int → ByteArray, f = fun v => bs (fixL v.toNat) := ⟨_, rfl⟩
  have z1 : (WT e).size ≤ 8 := by rw [hWT]; exact Nat.le_refl _
  have z2 : (WT s).size ≤ 8 := by rw [hWT]; exact Nat.le_refl _
  have z3 : (FT (log : Int)).size ≤ 4 := by rw [hFT]; exact Nat.le_refl _
  have z4 : (FT (p : Int)).size ≤ 4 := by rw [hFT]; exact Nat.le_refl _
  have CW : Hid (∀ (v : Nat) (W : World), v < 18446744073709551616 → Calls Try.prog 82 #[.int .u64 (v : Int)] W fun r w' => r = .returned (.string (WT v)) ∧ Below W.heap.size W w') := fun v W hv => wide_any v _ W hv (by rw [hWT]; rfl)
  have CF : Hid (∀ (x : Int) (W : World), 0 ≤ x → x < 4294967296 → Calls Try.prog 83 #[.int .u32 x] W fun r w' => r = .returned (.string (FT x)) ∧ Below W.heap.size W w') := fun x W h0 h1 => fixed_to x x.toNat _ W (by omega) (by omega) (by rw [hFT]; rfl)
  obtain ⟨X, hX⟩ : ∃ X, ⟨#[67, 68, 88, 83]⟩ ++ WT e ++ WT s ++ FT (log : Int) ++ FT (p : Int) = X := ⟨_, rfl⟩
  have hXe : X = bs ([67, 68, 88, 83] ++ wideL e ++ wideL s ++ fixL log ++ fixL p) := by
    rw [← hX, hWT, hFT]
    show ((((bs [67, 68, 88, 83] ++ bs (wideL e)) ++ bs (wideL s)) ++ bs (fixL log)) ++ bs (fixL p)) = _
    rw [bs_append, bs_append, bs_append, bs_append]
  have zX : X.size = 28 := by rw [hXe, bs_len]; rfl
  obtain ⟨Z, hZ⟩ : ∃ Z, bs (List.replicate 100 0) = Z := ⟨_, rfl⟩
  clear hWT hFT
  have CN := Lib.hid (fun W => jnoughts_any (128 - (X.size : Int)) 100 W (by omega) (by omega) (by omega))
  rw [hZ] at CN
  have zZ : Z.size ≤ 100 := by rw [← hZ, bs_len, List.length_replicate]; exact Nat.le_refl _
  have HF : Hid ((X ++ Z) ++ (X ++ Z) = slotB e s log p) := by
    show _ = _
    unfold slotB
    rw [half_parts, hXe, ← hZ, bs_append, bs_append]
  have z0 : X.size ≤ 28 := by omega
  have z0' : 28 ≤ X.size := by omega
  clear hXe zX hZ
  obtain ⟨w0, hw0⟩ : ∃ w0, w.alloc (.cells #[.int .u64 (e : Int), .int .u64 (s : Int), .int .i64 (log : Int), .int .i64 (p : Int)] 83) = w0 := ⟨_, rfl⟩
  have hb0 : w0.heap[w.heap.size]? = some (.cells #[.int .u64 (e : Int), .int .u64 (s : Int), .int .i64 (log : Int), .int .i64 (p : Int)] 83 (0, 0)) := by rw [← hw0, heap_alloc_new]
  have HB0 : Hid (Below w.heap.size w w0) := by rw [← hw0]; exact (Below.refl _ _).alloc (Nat.le_refl _) _
  have c0 : w0.cell? ⟨w.heap.size, 0, none⟩ = some (.int .u64 (e : Int)) := by rw [cell_at hb0]; rfl
  have c1 : w0.cell? ⟨w.heap.size, 1, none⟩ = some (.int .u64 (s : Int)) := by rw [cell_at hb0]; rfl
  have c2 : w0.cell? ⟨w.heap.size, 2, none⟩ = some (.int .i64 (log : Int)) := by rw [cell_at hb0]; rfl
  have c3 : w0.cell? ⟨w.heap.size, 3, none⟩ = some (.int .i64 (p : Int)) := by rw [cell_at hb0]; rfl
  have hlt : w.heap.size < w0.heap.size := (Array.getElem?_eq_some_iff.1 hb0).1
  clear hb0
  have HW0 := Lib.hid hw0; clear hw0
  have b1 : ¬ 9223372036854775807 < 4 + (WT e).size := by omega
  have b2 : ¬ 9223372036854775807 < 4 + (WT e).size + (WT s).size := by omega
  have b3 : ¬ 9223372036854775807 < 4 + (WT e).size + (WT s).size + (FT (log : Int)).size := by omega
  have b4 : ¬ 9223372036854775807 < 4 + (WT e).size + (WT s).size + (FT (log : Int)).size + (FT (p : Int)).size := by omega
  have wl : IntKind.u32.wrap (log : Int) = (log : Int) := u32_in _ (by omega)
  have wp : IntKind.u32.wrap (p : Int) = (p : Int) := u32_in _ (by omega)
  go_enter Try.func57, Try.ntmps57
  go_wp2_with fail
  rw [HW0.out]
  go_region_held3 (fun W => Below w0.heap.size w0 W ∧ W.cell? ⟨w.heap.size, 0, none⟩ = some (.int .u64 (e : Int)) ∧ W.cell? ⟨w.heap.size, 1, none⟩ = some (.int .u64 (s : Int)) ∧ W.cell? ⟨w.heap.size, 2, none⟩ = some (.int .i64 (log : Int)) ∧ W.cell? ⟨w.heap.size, 3, none⟩ = some (.int .i64 (p : Int)))
    (first | exact ⟨(Below.refl _ _).drew, c0, c1, c2, c3⟩ | exact held_four hlt (by assumption) (by assumption) | exact held_four hlt (by assumption) (Below.refl _ _))
    (first
      | (go_at_call 82; refine (CW.out _ _ ?_).mono ?_; (first | exact he | exact hs); rintro r w' ⟨rfl, hbx⟩)
      | (go_at_call 83; refine (CF.out _ _ ?_ ?_).mono ?_; omega; omega; rintro r w' ⟨rfl, hbx⟩))
  rename_i hHeld
  have HB1 : Hid (Below w.heap.size w w') := HB0.out.trans (hHeld.1.mono (Nat.le_of_lt hlt))
  clear hHeld hbx b1 b2 b3 b4 wl wp c0 c1 c2 c3
  go_wp2_with fail
  refine (CN.out _).mono ?_
  rintro r w2 ⟨rfl, hb2⟩
  have HB2 : Hid (Below w.heap.size w w2) := HB1.out.trans (hb2.mono HB1.out.size)
  clear hb2 HB1
  go_wp2
  go_ret
  exact ⟨by rw [← HF.out]; rfl, HB2.out⟩

theorem rdSlot_iff (t : ByteArray) (n : Nat) (x : Nat × Nat × Nat × Nat) : rdSlot t n = some x ↔ (50 ≤ nmAt t.data.toList 20 ∧ nmAt t.data.toList 20 + 3 ≤ n ∧ nmAt t.data.toList 24 < nmAt t.data.toList 20 ∧ t = slotB (wideAt t.data.toList 4) (wideAt t.data.toList 12) (nmAt t.data.toList 20) (nmAt t.data.toList 24)) ∧ x = (wideAt t.data.toList 4, wideAt t.data.toList 12, nmAt t.data.toList 20, nmAt t.data.toList 24) := by
  unfold rdSlot
  show (if _ then _ else _) = _ ↔ _
  split
  · rename_i h; simp only [Option.some.injEq]; exact ⟨fun e => ⟨h, e.symm⟩, fun e => e.2.symm⟩
  · rename_i h; exact ⟨fun e => (by cases e), fun e => absurd e.1 h⟩
theorem wideAt_lt (l : List UInt8) (i : Nat) : wideAt l i < 18446744073709551616 := by
  have h1 := nmAt_lt l i; have h2 := nmAt_lt l (i + 4); unfold wideAt; omega
/-- A slot as a value. -/
def slotV (x : Option (Nat × Nat × Nat × Nat)) : Value := match x with
  | none => .tuple #[.agg #[.int .u64 0, .int .u64 0, .int .i64 0, .int .i64 0], .bool false]
  | some x => .tuple #[.agg #[.int .u64 (x.1 : Int), .int .u64 (x.2.1 : Int), .int .i64 (x.2.2.1 : Int), .int .i64 (x.2.2.2 : Int)], .bool true]

theorem results_slot (tmps : Array Value) (g : Nat) (Y : World) (b : Bool) (x0 x1 x2 x3 : Int) (h4 : tmps.getD 4 undef = .pointer (some ⟨g, 0, none⟩)) (h5 : tmps.getD 5 undef = .bool b)
    (hY : Y.heap[g]? = some (.cells #[.int .u64 x0, .int .u64 x1, .int .i64 x2, .int .i64 x3] 83 (0, 0))) :
    (results Try.f75 tmps).run Try.prog Y = .ok (.tuple #[.agg #[.int .u64 x0, .int .u64 x1, .int .i64 x2, .int .i64 x3], .bool b]) Y := by
  have y0 : Y.cell? ⟨g, 0, none⟩ = some (.int .u64 x0) := by rw [cell_at hY]; rfl
  have y1 : Y.cell? ⟨g, 1, none⟩ = some (.int .u64 x1) := by rw [cell_at hY]; rfl
  have y2 : Y.cell? ⟨g, 2, none⟩ = some (.int .i64 x2) := by rw [cell_at hY]; rfl
  have y3 : Y.cell? ⟨g, 3, none⟩ = some (.int .i64 x3) := by rw [cell_at hY]; rfl
  rw [Array.getD_eq_getD_getElem?] at h4 h5
  simp [results, Try.results75, go_sem, h4, h5, y0, y1, y2, y3]

set_option maxRecDepth 100000 in
set_option maxHeartbeats 2000000 in
theorem readSlot_any (t : ByteArray) (n : Nat) (w : World) (ht : t.size = 256) (hn : n ≤ 4096) :
    Calls Try.prog 75 #[.string t, .int .i64 (n : Int)] w fun r w' => r = .returned (slotV (rdSlot t n)) ∧ Below w.heap.size w w' := by
  obtain ⟨l, hl⟩ : ∃ l, t.data.toList = l := ⟨_, rfl⟩
  have hll : l.length = 256 := by rw [← hl, str_len, ht]
  have HI := Lib.hid (rdSlot_iff t n)
  rw [hl] at HI
  obtain ⟨T1, hT1⟩ : ∃ T, t.extract 4 t.size = T := ⟨_, rfl⟩
  have h1 : T1 = bs (l.drop 4) := by rw [← hT1, Fr.ext_eq t l hl]
  obtain ⟨T2, h2⟩ : ∃ T2, T2 = bs (l.drop 12) := ⟨_, rfl⟩
  obtain ⟨T3, h3⟩ : ∃ T3, T3 = bs (l.drop 20) := ⟨_, rfl⟩
  obtain ⟨T4, h4⟩ : ∃ T4, T4 = bs (l.drop 24) := ⟨_, rfl⟩
  obtain ⟨T5, h5⟩ : ∃ T5, T5 = bs (l.drop 28) := ⟨_, rfl⟩
  have F1 := Lib.hid (fun W => toWide_any l 4 T1 T2 W (by omega) (by omega) h1 h2)
  have F2 := Lib.hid (fun W => toWide_any l 12 T2 T3 W (by omega) (by omega) h2 h3)
  have F3 := Lib.hid (fun W => toFixed_at (k := 20) W h3 h4 (by omega) (by omega))
  have F4 := Lib.hid (fun W => toFixed_at (k := 24) W h4 h5 (by omega) (by omega))
  have x4 := wideAt_lt l 4; have x12 := wideAt_lt l 12; have x20 := nmAt_lt l 20; have x24 := nmAt_lt l 24
  clear h1 h2 h3 h4 h5 hl hll
  generalize wideAt l 4 = e at *
  generalize wideAt l 12 = s at *
  generalize nmAt l 20 = log at *
  generalize nmAt l 24 = p at *
  have i4 : (4 : Int) ≤ (t.size : Int) := by omega
  have CF := Lib.hid (fun W => fits_any (w := W) (log : Int) n hn)
  have CT := Lib.hid (fun W (h : log ≤ 4096) (h2 : p ≤ 4096) => text_any e s log p W x4 x12 h h2)
  clear ht
  obtain ⟨A0, hA0⟩ : ∃ A0, w.alloc (.cells #[.int .u64 0, .int .u64 0, .int .i64 0, .int .i64 0] 83) = A0 := ⟨_, rfl⟩
  have hr0 : A0.heap[w.heap.size]? = some (.cells #[.int .u64 0, .int .u64 0, .int .i64 0, .int .i64 0] 83 (0, 0)) := by rw [← hA0, heap_alloc_new]
  have HB0 : Hid (Below w.heap.size w A0) := by rw [← hA0]; exact (Below.refl _ _).alloc (Nat.le_refl _) _
  have hz0 : w.heap.size < A0.heap.size := (Array.getElem?_eq_some_iff.1 hr0).1
  have HR0 := Lib.hid hr0; clear hr0
  have HA0 := Lib.hid hA0; clear hA0
  go_enter Try.func75, Try.ntmps75
  go_wp2_with fail
  rw [HA0.out]
  refine (F1.out _).mono ?_
  rintro r w1 ⟨rfl, hb1⟩
  have HB1 := Lib.hid hb1; clear hb1
  go_wp2_with fail
  refine (F2.out _).mono ?_
  rintro r w2 ⟨rfl, hb2⟩
  have HB2 := Lib.hid (HB1.out.trans (hb2.mono HB1.out.size)); clear hb2 HB1
  go_wp2_with fail
  refine (F3.out _).mono ?_
  rintro r w3 ⟨rfl, hb3⟩
  have HB3 := Lib.hid (HB2.out.trans (hb3.mono HB2.out.size)); clear hb3 HB2
  go_wp2_with fail
  refine (F4.out _).mono ?_
  rintro r w4 ⟨rfl, hb4⟩
  have HB4 := Lib.hid (HB3.out.trans (hb4.mono HB3.out.size)); clear hb4 HB3
  have hz4 := HB4.out.size
  obtain ⟨X, hX⟩ : ∃ X, w4.alloc (.cells #[.int .u64 (e : Int), .int .u64 (s : Int), .int .i64 (log : Int), .int .i64 (p : Int)] 83) = X := ⟨_, rfl⟩
  have hXh : X.heap[w4.heap.size]? = some (.cells #[.int .u64 (e : Int), .int .u64 (s : Int), .int .i64 (log : Int), .int .i64 (p : Int)] 83 (0, 0)) := by rw [← hX, heap_alloc_new]
  have HXB : Hid (Below A0.heap.size A0 X) := by rw [← hX]; exact HB4.out.alloc hz4 _
  have k0 : X.cell? ⟨w4.heap.size, 0, none⟩ = some (.int .u64 (e : Int)) := by rw [cell_at hXh]; rfl
  have k1 : X.cell? ⟨w4.heap.size, 1, none⟩ = some (.int .u64 (s : Int)) := by rw [cell_at hXh]; rfl
  have k2 : X.cell? ⟨w4.heap.size, 2, none⟩ = some (.int .i64 (log : Int)) := by rw [cell_at hXh]; rfl
  have k3 : X.cell? ⟨w4.heap.size, 3, none⟩ = some (.int .i64 (p : Int)) := by rw [cell_at hXh]; rfl
  have hzX : w4.heap.size < X.heap.size := (Array.getElem?_eq_some_iff.1 hXh).1
  have hrX := (HXB.out.block _ hz0).trans HR0.out
  have r0 : X.cell? ⟨w.heap.size, 0, none⟩ = some (.int .u64 0) := by rw [cell_at hrX]; rfl
  have r1 : X.cell? ⟨w.heap.size, 1, none⟩ = some (.int .u64 0) := by rw [cell_at hrX]; rfl
  have r2 : X.cell? ⟨w.heap.size, 2, none⟩ = some (.int .i64 0) := by rw [cell_at hrX]; rfl
  have r3 : X.cell? ⟨w.heap.size, 3, none⟩ = some (.int .i64 0) := by rw [cell_at hrX]; rfl
  have q0 : X.frozen? ⟨w.heap.size, 0, none⟩ = false := free_at hrX 0
  have q1 : X.frozen? ⟨w.heap.size, 1, none⟩ = false := free_at hrX 1
  have q2 : X.frozen? ⟨w.heap.size, 2, none⟩ = false := free_at hrX 2
  have q3 : X.frozen? ⟨w.heap.size, 3, none⟩ = false := free_at hrX 3
  have HWX : Hid (Below w.heap.size w X) := HB0.out.trans (HXB.out.mono (Nat.le_of_lt hz0))
  have HRX := Lib.hid hrX
  clear hXh hrX
  have HX := Lib.hid hX; clear hX
  have fin : Hid (∀ (X5 : World) (x0 x1 x2 x3 : Int) (b : Bool) (tmps : Array Value), Below X.heap.size X X5 → tmps.getD 4 undef = .pointer (some ⟨w.heap.size, 0, none⟩) → tmps.getD 5 undef = .bool b →
      (rdSlot t n = none ∧ x0 = 0 ∧ x1 = 0 ∧ x2 = 0 ∧ x3 = 0 ∧ b = false) ∨ (rdSlot t n = some (e, s, log, p) ∧ x0 = (e : Int) ∧ x1 = (s : Int) ∧ x2 = (log : Int) ∧ x3 = (p : Int) ∧ b = true) →
      bodyPost Try.prog Try.f75 (fun r w' => r = .returned (slotV (rdSlot t n)) ∧ Below w.heap.size w w') .ret ⟨tmps, []⟩ ((((X5.setCell ⟨w.heap.size, 0, none⟩ (.int .u64 x0)).setCell ⟨w.heap.size, 1, none⟩ (.int .u64 x1)).setCell ⟨w.heap.size, 2, none⟩ (.int .i64 x2)).setCell ⟨w.heap.size, 3, none⟩ (.int .i64 x3))) := by
    intro X5 x0 x1 x2 x3 b tmps h5 ht4 ht5 hc
    have h0 := (h5.block _ (Nat.lt_of_lt_of_le hz0 HXB.out.size)).trans HRX.out
    have h4 := heap_setCell_at (i := 3) (heap_setCell_at (i := 2) (heap_setCell_at (i := 1) (heap_setCell_at (i := 0) h0 (.int .u64 x0)) (.int .u64 x1)) (.int .i64 x2)) (.int .i64 x3)
    refine bodyPost_ret (results_slot tmps w.heap.size _ b x0 x1 x2 x3 ht4 ht5 h4) rfl ⟨?_, ((((HWX.out.trans (h5.mono HWX.out.size)).setCell (Nat.le_refl _) _).setCell (Nat.le_refl _) _).setCell (Nat.le_refl _) _).setCell (Nat.le_refl _) _⟩
    rcases hc with ⟨hr, rfl, rfl, rfl, rfl, rfl⟩ | ⟨hr, rfl, rfl, rfl, rfl, rfl⟩
    · rw [hr]; rfl
    · rw [hr]; rfl
  by_cases hf : 50 ≤ (log : Int) ∧ (log : Int) ≤ (n : Int) - 3
  · have hd : decide (50 ≤ (log : Int) ∧ (log : Int) ≤ (n : Int) - 3) = true := decide_eq_true hf
    rw [hd] at CF
    by_cases hpl : p < log
    · have hpl' : ¬ (log : Int) ≤ (p : Int) := by omega
      have CT2 := Lib.hid (fun W => CT.out W (by omega) (by omega))
      have hzw : w.heap.size < X.heap.size := Nat.lt_of_lt_of_le hz0 HXB.out.size
      by_cases hte : t = slotB e s log p
      · have HR : Hid (rdSlot t n = some (e, s, log, p)) := (HI.out _).2 ⟨⟨by omega, by omega, hpl, hte⟩, rfl⟩
        have hcmp2 : (!((slotB e s log p).toList == t.toList)) = false := by rw [Fr.str_same hte.symm]; rfl
        generalize slotB e s log p = tt at *
        clear hte hd HI CT
        go_wp2_with fail
        rw [HX.out]
        refine (CF.out _).mono ?_
        rintro r w5 ⟨rfl, rfl⟩
        go_wp2_with fail
        refine (CT2.out _).mono ?_
        rintro r w6 ⟨rfl, hb6⟩
        have HB6 := Lib.hid hb6; clear hb6
        have k0' := (HB6.out.cell (p := ⟨w4.heap.size, 0, none⟩) hzX).trans k0
        have k1' := (HB6.out.cell (p := ⟨w4.heap.size, 1, none⟩) hzX).trans k1
        have k2' := (HB6.out.cell (p := ⟨w4.heap.size, 2, none⟩) hzX).trans k2
        have k3' := (HB6.out.cell (p := ⟨w4.heap.size, 3, none⟩) hzX).trans k3
        have r0' := (HB6.out.cell (p := ⟨w.heap.size, 0, none⟩) hzw).trans r0
        have r1' := (HB6.out.cell (p := ⟨w.heap.size, 1, none⟩) hzw).trans r1
        have r2' := (HB6.out.cell (p := ⟨w.heap.size, 2, none⟩) hzw).trans r2
        have r3' := (HB6.out.cell (p := ⟨w.heap.size, 3, none⟩) hzw).trans r3
        have q0' := (HB6.out.frozen (p := ⟨w.heap.size, 0, none⟩) hzw).trans q0
        have q1' := (HB6.out.frozen (p := ⟨w.heap.size, 1, none⟩) hzw).trans q1
        have q2' := (HB6.out.frozen (p := ⟨w.heap.size, 2, none⟩) hzw).trans q2
        have q3' := (HB6.out.frozen (p := ⟨w.heap.size, 3, none⟩) hzw).trans q3
        clear k0 k1 k2 k3 r0 r1 r2 r3 q0 q1 q2 q3
        go_wp2
        exact fin.out _ _ _ _ _ _ _ HB6.out rfl rfl (.inr ⟨HR.out, rfl, rfl, rfl, rfl, rfl⟩)
      · have HR : Hid (rdSlot t n = none) := by
          cases h : rdSlot t n with
          | none => rfl
          | some x => exact absurd ((HI.out _).1 h).1.2.2.2 hte
        have hcmp2 : (!((slotB e s log p).toList == t.toList)) = true := by rw [Fr.str_diff (fun h => hte h.symm)]; rfl
        generalize slotB e s log p = tt at *
        clear hte hd HI CT
        go_wp2_with fail
        rw [HX.out]
        refine (CF.out _).mono ?_
        rintro r w5 ⟨rfl, rfl⟩
        go_wp2_with fail
        refine (CT2.out _).mono ?_
        rintro r w6 ⟨rfl, hb6⟩
        have HB6 := Lib.hid hb6; clear hb6
        have r0' := (HB6.out.cell (p := ⟨w.heap.size, 0, none⟩) hzw).trans r0
        have r1' := (HB6.out.cell (p := ⟨w.heap.size, 1, none⟩) hzw).trans r1
        have r2' := (HB6.out.cell (p := ⟨w.heap.size, 2, none⟩) hzw).trans r2
        have r3' := (HB6.out.cell (p := ⟨w.heap.size, 3, none⟩) hzw).trans r3
        have q0' := (HB6.out.frozen (p := ⟨w.heap.size, 0, none⟩) hzw).trans q0
        have q1' := (HB6.out.frozen (p := ⟨w.heap.size, 1, none⟩) hzw).trans q1
        have q2' := (HB6.out.frozen (p := ⟨w.heap.size, 2, none⟩) hzw).trans q2
        have q3' := (HB6.out.frozen (p := ⟨w.heap.size, 3, none⟩) hzw).trans q3
        clear k0 k1 k2 k3 r0 r1 r2 r3 q0 q1 q2 q3
        go_wp2
        exact fin.out _ _ _ _ _ _ _ HB6.out rfl rfl (.inl ⟨HR.out, rfl, rfl, rfl, rfl, rfl⟩)
    · have HR : Hid (rdSlot t n = none) := by
        cases h : rdSlot t n with
        | none => rfl
        | some x => exact absurd ((HI.out _).1 h).1.2.2.1 hpl
      have hpl' : (log : Int) ≤ (p : Int) := by omega
      clear hd HI CT
      go_wp2_with fail
      rw [HX.out]
      refine (CF.out _).mono ?_
      rintro r w5 ⟨rfl, rfl⟩
      go_wp2
      exact fin.out _ _ _ _ _ _ _ (Below.refl _ _) rfl rfl (.inl ⟨HR.out, rfl, rfl, rfl, rfl, rfl⟩)
  · have HR : Hid (rdSlot t n = none) := by
      cases h : rdSlot t n with
      | none => rfl
      | some x => exact absurd ((HI.out _).1 h).1 (fun h2 => hf (by omega))
    have hd : decide (50 ≤ (log : Int) ∧ (log : Int) ≤ (n : Int) - 3) = false := decide_eq_false hf
    rw [hd] at CF
    clear hd HI CT hf
    go_wp2_with fail
    rw [HX.out]
    refine (CF.out _).mono ?_
    rintro r w5 ⟨rfl, rfl⟩
    go_wp2
    exact fin.out _ _ _ _ _ _ _ (Below.refl _ _) rfl rfl (.inl ⟨HR.out, rfl, rfl, rfl, rfl, rfl⟩)
end Go.Proofs.Ytodfcbpimglhdaa
/- What Checkpoint answers and leaves behind, for every journal over every device. -/
namespace Go.Proofs.Ytodfcbpimglhdaa
open Go.RowKit
open Fr (SlW WritesAt)

section
variable {t : TypeId} {S S1 T : Nat → Prop} {w w1 w2 w' : World} {a p : Nat} {J J1 J2 : JS} {D D1 D2 : DevS} {v : Value} {L : List (Int × ByteArray)}

/-- What a call that may write on a journal and its device leaves. -/
def JLeaves (t : TypeId) (S : Nat → Prop) (w w' : World) (a p : Nat) (D' : DevS) (J' : JS) : Prop :=
  ∃ S' : Nat → Prop, (∀ k, S' k → S k ∨ w.heap.size ≤ k) ∧ Stands S' w' p D' ∧ Jr t w' a p J' ∧ Only (fun k => S k ∨ k = a) w w'
theorem JLeaves.of (h : Leaves S w w' p D1) (hj : Jr t w a p J) (ha : ¬ S a) : JLeaves t S w w' a p D1 J := by
  obtain ⟨S', hS', hs, ho⟩ := h
  exact ⟨S', hS', hs, hj.only ho ha, ho.mono (fun _ _ h => .inl h)⟩
theorem JLeaves.refl (hd : Stands S w p D) (hj : Jr t w a p J) : JLeaves t S w w a p D J := ⟨S, fun _ => .inl, hd, hj, Only.refl _ _⟩
theorem JLeaves.next (hS1 : ∀ k, S1 k → S k ∨ w.heap.size ≤ k) (ho : Only (fun k => S k ∨ k = a) w w1) (h : JLeaves t S1 w1 w2 a p D2 J2) : JLeaves t S w w2 a p D2 J2 := by
  obtain ⟨S2, hS2, hs, hj, ho2⟩ := h
  refine ⟨S2, fun k hk => ?_, hs, hj, ho.trans ho2 (fun i hi h1 => ?_)⟩
  · rcases hS2 k hk with h | h
    · exact hS1 k h
    · exact .inr (Nat.le_trans ho.size h)
  · rcases h1 with h1 | h1
    · rcases hS1 i h1 with h | h
      · exact .inl h
      · omega
    · exact .inr h1
theorem JLeaves.below (h : JLeaves t S w w1 a p D1 J1) (hb : Below w1.heap.size w1 w2) : JLeaves t S w w2 a p D1 J1 := by
  obtain ⟨S2, hS2, hs, hj, ho2⟩ := h
  exact ⟨S2, hS2, hs.below hb, hj.below hb, ho2.trans (Only.of_below (fun _ => False) hb (Nat.le_refl _)) (fun _ _ f => f.elim)⟩
theorem JLeaves.from (hb : Below w.heap.size w w1) (h : JLeaves t S w1 w2 a p D2 J2) : JLeaves t S w w2 a p D2 J2 :=
  JLeaves.next (fun _ h => .inl h) (Only.of_below _ hb (Nat.le_refl _)) h

/-- A slice of one write, made for a call. -/
theorem one_write (w : World) (i : Int) (s : ByteArray) : SlW (w.alloc (.cells #[.int .i64 i, .string s] 71)) (.slice (some ⟨w.heap.size, 0, none⟩) 1 1) [(i, s)] := by
  refine ⟨_, 1, rfl, Nat.le_refl _, .inr ⟨w.heap.size, 0, rfl, by simp, fun j hj => ?_⟩⟩
  obtain rfl : j = 0 := by simpa using hj
  exact ⟨by rw [cell_at (heap_alloc_new ..)]; rfl, by rw [cell_at (heap_alloc_new ..)]; rfl⟩

/-- settle of one write that was made for it. -/
theorem settle_one (i : Int) (s : ByteArray) (hj : Jr 85 w a p J) (hd : Stands S w p D) (ha : ¬ S a) (hp : D.pend.length ≤ 900000) :
    Calls Try.prog 56 #[.pointer (some ⟨a, 0, none⟩), .slice (some ⟨w.heap.size, 0, none⟩) 1 1] (w.alloc (.cells #[.int .i64 i, .string s] 71)) fun e w' => e = .returned (.int .i64 (D.stl [(i, s)]).1) ∧ Leaves S w w' p (D.stl [(i, s)]).2 := by
  have hb : Below w.heap.size w (w.alloc (.cells #[.int .i64 i, .string s] 71)) := (Below.refl _ _).alloc (Nat.le_refl _) _
  refine (jsettle_any (hj.below hb) (hd.below hb) ha (by simp) hp (one_write w i s) ?_).mono fun e w' ⟨he, hl⟩ => ⟨he, Leaves.from hb hl⟩
  intro g off n c hv hg
  cases hv
  have := hd.lt _ hg
  omega

/-- What the last statement of a checkpoint stores. -/
abbrev ckW (w : World) (a E nx lg q sd : Nat) : World := ((((((w.setCell ⟨a, 1, none⟩ (.int .u64 (E : Int))).setCell ⟨a, 2, none⟩ (.int .u64 (nx : Int))).setCell ⟨a, 3, none⟩ (.int .i64 (lg : Int))).setCell ⟨a, 4, none⟩ (.int .i64 (q : Int))).setCell ⟨a, 5, none⟩ (.int .i64 (sd : Int))).setCell ⟨a, 7, none⟩ (.int .i64 0)).drew
theorem ck_only (w : World) (a E nx lg q sd : Nat) : Only (fun k => k = a) w (ckW w a E nx lg q sd) :=
  (((((((Only.refl (fun k => k = a) w).setCell (p := ⟨a, 1, none⟩) (fun _ => rfl) _).setCell (p := ⟨a, 2, none⟩) (fun _ => rfl) _).setCell (p := ⟨a, 3, none⟩) (fun _ => rfl) _).setCell (p := ⟨a, 4, none⟩) (fun _ => rfl) _).setCell (p := ⟨a, 5, none⟩) (fun _ => rfl) _).setCell (p := ⟨a, 7, none⟩) (fun _ => rfl) _).drew
theorem Jr.drew (h : Jr t w a p J) : Jr t w.drew a p J := by unfold Jr at *; exact h
theorem Jr.ck (h : Jr t w a p J) (E q sd : Nat) : Jr t (ckW w a E J.next J.log q sd) a p ⟨E, J.next, J.log, q, sd, J.next, 0⟩ := by
  have h1 := h.put (J' := { J with e := E }) (i := 1) (v := .int .u64 (E : Int)) (by simp [JCells])
  have h2 := h1.put (J' := { J with e := E, s := J.next }) (i := 2) (v := .int .u64 (J.next : Int)) (by simp [JCells])
  have h3 := h2.put (J' := { J with e := E, s := J.next }) (i := 3) (v := .int .i64 (J.log : Int)) (by simp [JCells])
  have h4 := h3.put (J' := { J with e := E, s := J.next, p := q }) (i := 4) (v := .int .i64 (q : Int)) (by simp [JCells])
  have h5 := h4.put (J' := { J with e := E, s := J.next, p := q, side := sd }) (i := 5) (v := .int .i64 (sd : Int)) (by simp [JCells])
  exact (h5.put (J' := ⟨E, J.next, J.log, q, sd, J.next, 0⟩) (i := 7) (v := .int .i64 0) (by simp [JCells])).drew
/-- The cells that the last statements of a checkpoint read. -/
abbrev CkS (a g sd E nx lg q : Nat) (W : World) : Prop := W.cell? ⟨a, 5, none⟩ = some (.int .i64 (sd : Int)) ∧ W.cell? ⟨g, 0, none⟩ = some (.int .u64 (E : Int)) ∧ W.cell? ⟨g, 1, none⟩ = some (.int .u64 (nx : Int)) ∧ W.cell? ⟨g, 2, none⟩ = some (.int .i64 (lg : Int)) ∧ W.cell? ⟨g, 3, none⟩ = some (.int .i64 (q : Int))

set_option maxRecDepth 100000 in
set_option maxHeartbeats 2000000 in
theorem ckp_any (hj : Jr 85 w a p J) (hd : Stands S w p D) (ha : ¬ S a) (ok : J.Ok D.disk.length) (hp : D.pend.length ≤ 800000) :
    Calls Try.prog 35 #[.pointer (some ⟨a, 0, none⟩)] w fun e w' => e = .returned (.int .i64 (J.ckp D).1) ∧ JLeaves 85 S w w' a p (J.ckp D).2.1 (J.ckp D).2.2 := by
  have hn := hd.ok.few
  have CB := Lib.hid (behind_any 0 hj ok hn (by have := ok.fu; omega))
  have HJ := Lib.hid hj; clear hj
  have HD := Lib.hid hd; clear hd
  have HA := Lib.hid ha; clear ha
  have HOK := Lib.hid ok; clear ok
  go_enter Try.func35, Try.ntmps35
  go_wp2_with fail
  refine CB.out.mono ?_
  rintro e w1 ⟨rfl, hb1⟩
  have HB1 := Lib.hid hb1; clear hb1
  go_wp2_with fail
  refine (jnoughts_all _).mono ?_
  rintro e w2 ⟨rfl, hb2⟩
  have HB2 := Lib.hid (HB1.out.trans (hb2.mono HB1.out.size)); clear hb2 HB1
  go_wp2_with fail
  obtain ⟨R1, hR1⟩ : ∃ R, D.stl [(((J.pos 0 : Nat) : Int), noughts)] = R := ⟨_, rfl⟩
  have C1 := Lib.hid (settle_one ((J.pos 0 : Nat) : Int) noughts (HJ.out.below HB2.out) (HD.out.below HB2.out) HA.out (by omega))
  rw [hR1] at C1
  have HL1 : Hid (R1.2.pend.length ≤ 850000 ∧ R1.2.disk.length = D.disk.length) := by
    rw [← hR1]; have := D.stl_len [(((J.pos 0 : Nat) : Int), noughts)]; exact ⟨by simp at this; omega, D.stl_disk _⟩
  have HCk : Hid (J.ckp D = if R1.1 ≠ 0 then (R1.1, R1.2, J) else
      if (R1.2.stl [(((1 - J.side : Nat) : Int), slotB ((J.e + 1) % 18446744073709551616) J.next J.log (J.pos 0 - 2))]).1 ≠ 0 then ((R1.2.stl [(((1 - J.side : Nat) : Int), slotB ((J.e + 1) % 18446744073709551616) J.next J.log (J.pos 0 - 2))]).1, (R1.2.stl [(((1 - J.side : Nat) : Int), slotB ((J.e + 1) % 18446744073709551616) J.next J.log (J.pos 0 - 2))]).2, J)
      else (0, (R1.2.stl [(((1 - J.side : Nat) : Int), slotB ((J.e + 1) % 18446744073709551616) J.next J.log (J.pos 0 - 2))]).2, J.next')) := by
    show J.ckp D = _
    rw [← hR1]; rfl
  clear hR1 CB
  obtain ⟨er1, D1⟩ := R1
  simp only at C1 HL1 HCk
  refine C1.out.mono ?_
  rintro e w3 ⟨rfl, hv3⟩
  have HV3 := Lib.hid (Leaves.from HB2.out hv3); clear hv3 C1 HB2
  by_cases he1 : er1 = 0
  · have he1' : (er1 != 0) = false := by simp [he1]
    rw [if_neg (by simpa using he1)] at HCk
    obtain ⟨S3, hS3, hs3, ho3⟩ := HV3.out
    have hna : ¬ S3 a := fun h => by rcases hS3 a h with h | h; exact HA.out h; have := HJ.out.lt; omega
    have hj3 := HJ.out.only ho3 HA.out
    have hok3 : J.Ok D1.disk.length := by rw [HL1.out.2]; exact HOK.out
    have c1 := hj3.c1; have c3 := hj3.c3; have c5 := hj3.c5; have c6 := hj3.c6
    have CB3 : Hid (∀ W, Below w3.heap.size w3 W → Calls Try.prog 67 #[.pointer (some ⟨a, 0, none⟩), .int .i64 0] W fun e w' => e = .returned (.int .i64 (J.pos 0)) ∧ w' = W.drew) := fun W hW =>
      behind_drew 0 (hj3.below hW) hok3 (by rw [HL1.out.2]; exact hn) (by have := HOK.out.fu; omega)
    have hal := hj3.lt
    have HS3 := Lib.hid hS3; have HSt3 := Lib.hid hs3; have HO3 := Lib.hid ho3; have HJ3 := Lib.hid hj3; have HNA := Lib.hid hna
    clear hS3 hs3 ho3 hj3 hna hok3
    have hp2 := HOK.out.pos_lt 0
    have hll := HOK.out.l1
    obtain ⟨ps, hps⟩ : ∃ x, J.pos 0 = x := ⟨_, rfl⟩
    rw [hps] at CB3 HCk hp2
    have HPS := Lib.hid hps; clear hps
    obtain ⟨E, hE⟩ : ∃ x : Nat, (J.e + 1) % 18446744073709551616 = x := ⟨_, rfl⟩
    have wE : IntKind.u64.wrap ((J.e : Int) + 1) = (E : Int) := by rw [← hE]; simp [IntKind.wrap, IntKind.bits, IntKind.signed]
    rw [hE] at HCk
    have HE := Lib.hid hE; clear hE
    obtain ⟨q, hq⟩ : ∃ q, ps = 2 + q := ⟨ps - 2, by omega⟩
    subst hq
    rw [Nat.add_sub_cancel_left] at HCk
    have wq : IntKind.i64.wrap (2 + (q : Int) - 2) = (q : Int) := by rw [show 2 + (q : Int) - 2 = (q : Int) by omega]; exact IntWalk.i64_in _ (by omega)
    go_wp2_with fail
    have hal' : w3.heap.size ≠ a := by omega
    go_region_held3 (fun W => W.cell? ⟨a, 1, none⟩ = some (.int .u64 J.e) ∧ W.cell? ⟨a, 3, none⟩ = some (.int .i64 J.log) ∧ W.cell? ⟨a, 6, none⟩ = some (.int .u64 J.next))
      (first | exact ⟨c1, c3, c6⟩ | go_keep)
      (first | (go_at_call 67; refine (CB3.out _ ?_).mono ?_; (first | exact (Below.refl _ _).drew | exact ((Below.refl _ _).drew).alloc (Nat.le_refl _) _); rintro e w' ⟨rfl, rfl⟩))
    all_goals
      obtain ⟨X, hX⟩ : ∃ X, (w3.alloc (.cells #[.int .u64 (E : Int), .int .u64 (J.next : Int), .int .i64 (J.log : Int), .int .i64 (q : Int)] 83)).drew.drew = X := ⟨_, rfl⟩
      rw [hX]
      have hXb : Below w3.heap.size w3 X := by rw [← hX]; exact (((Below.refl _ _).alloc (Nat.le_refl _) _).drew).drew
      have hXh : X.heap[w3.heap.size]? = some (.cells #[.int .u64 (E : Int), .int .u64 (J.next : Int), .int .i64 (J.log : Int), .int .i64 (q : Int)] 83 (0, 0)) := by rw [← hX]; exact heap_alloc_new ..
      have hXz : w3.heap.size < X.heap.size := (Array.getElem?_eq_some_iff.1 hXh).1
      clear hX
      have y0 : X.cell? ⟨w3.heap.size, 0, none⟩ = some (.int .u64 (E : Int)) := by rw [cell_at hXh]; rfl
      have y1 : X.cell? ⟨w3.heap.size, 1, none⟩ = some (.int .u64 (J.next : Int)) := by rw [cell_at hXh]; rfl
      have y2 : X.cell? ⟨w3.heap.size, 2, none⟩ = some (.int .i64 (J.log : Int)) := by rw [cell_at hXh]; rfl
      have y3 : X.cell? ⟨w3.heap.size, 3, none⟩ = some (.int .i64 (q : Int)) := by rw [cell_at hXh]; rfl
      have y5 : X.cell? ⟨a, 5, none⟩ = some (.int .i64 J.side) := (hXb.cell (p := ⟨a, 5, none⟩) hal).trans c5
      have hsi := HOK.out.si
      have hE64 : E < 18446744073709551616 := by rw [← HE.out]; exact Nat.mod_lt _ (by omega)
      have CT : Hid (∀ W, Calls Try.prog 57 #[.agg #[.int .u64 (E : Int), .int .u64 (J.next : Int), .int .i64 (J.log : Int), .int .i64 (q : Int)]] W fun r w' => r = .returned (.string (slotB E J.next J.log q)) ∧ Below W.heap.size W w') :=
        fun W => text_any E J.next J.log q W hE64 HOK.out.n64 (by omega) (by omega)
      have w1s : (1 : Int) - (J.side : Int) = ((1 - J.side : Nat) : Int) := by omega
      have w1s' : IntKind.i64.wrap ((1 : Int) - (J.side : Int)) = ((1 - J.side : Nat) : Int) := by rw [w1s]; exact IntWalk.i64_in _ (by omega)
      have HXh := Lib.hid hXh; have HXb := Lib.hid hXb
      clear hXh hXb c1 c3 c5 c6 wE wq w1s
      generalize slotB E J.next J.log q = tt at *
      obtain ⟨R2, hR2⟩ : ∃ R, D1.stl [(((1 - J.side : Nat) : Int), tt)] = R := ⟨_, rfl⟩
      rw [hR2] at HCk
      have CS : Hid (∀ W, Below X.heap.size X W → Calls Try.prog 56 #[.pointer (some ⟨a, 0, none⟩), .slice (some ⟨W.heap.size, 0, none⟩) 1 1] (W.alloc (.cells #[.int .i64 ((1 - J.side : Nat) : Int), .string tt] 71)) fun e w' => e = .returned (.int .i64 R2.1) ∧ Leaves S3 X w' p R2.2) := by
        intro W hW
        have hb := HXb.out.trans (hW.mono HXb.out.size)
        rw [← hR2]
        exact (settle_one _ tt (HJ3.out.below hb) (HSt3.out.below hb) HNA.out (by have := HL1.out.1; omega)).mono fun e w' ⟨he, hl⟩ => ⟨he, Leaves.from hW hl⟩
      clear hR2
      have HCells : Hid (∀ W : World, W.heap[w3.heap.size]? = X.heap[w3.heap.size]? → W.cell? ⟨a, 5, none⟩ = X.cell? ⟨a, 5, none⟩ → CkS a w3.heap.size J.side E J.next J.log q W) := by
        intro W h1 h2
        have h := h1.trans HXh.out
        exact ⟨h2.trans y5, by rw [cell_at h]; rfl, by rw [cell_at h]; rfl, by rw [cell_at h]; rfl, by rw [cell_at h]; rfl⟩
      have hXa : a < X.heap.size := by omega
      have HKT : Hid (∀ W, Below X.heap.size X W → CkS a w3.heap.size J.side E J.next J.log q W) := fun W hW => HCells.out W (hW.block _ hXz) (hW.cell (p := ⟨a, 5, none⟩) hXa)
      have HKA : Hid (∀ W o, Below X.heap.size X W → CkS a w3.heap.size J.side E J.next J.log q (W.alloc o)) := fun W o hW => HKT.out (W.alloc o) (hW.alloc hW.size o)
      have HKL : Hid (∀ w' D', Leaves S3 X w' p D' → CkS a w3.heap.size J.side E J.next J.log q w') := fun w' D' h => HCells.out w' (h.only.block _ hXz (fun hs => by have := HSt3.out.lt _ hs; omega)) (h.only.cell (p := ⟨a, 5, none⟩) hXa HNA.out)
      obtain ⟨er2, D2⟩ := R2
      simp only at CS HCk
      go_wp2_with fail
      go_region_held3 (fun W => W.cell? ⟨a, 5, none⟩ = some (.int .i64 J.side) ∧ W.cell? ⟨w3.heap.size, 0, none⟩ = some (.int .u64 (E : Int)) ∧ W.cell? ⟨w3.heap.size, 1, none⟩ = some (.int .u64 (J.next : Int)) ∧ W.cell? ⟨w3.heap.size, 2, none⟩ = some (.int .i64 (J.log : Int)) ∧ W.cell? ⟨w3.heap.size, 3, none⟩ = some (.int .i64 (q : Int)))
        (first | exact ⟨y5, y0, y1, y2, y3⟩ | exact HKT.out _ (by assumption) | exact HKA.out _ _ (by assumption) | exact HKL.out _ _ (by assumption))
        (first | (go_at_call 57; refine (CT.out _).mono ?_; rintro r w5 ⟨rfl, hb5'⟩; have hb5 := Fr.below_predrew hb5'; clear hb5')
               | (go_at_call 56; refine (CS.out _ hb5).mono ?_; rintro r w6 ⟨rfl, hv6⟩))
      rename_i hHeld
      obtain ⟨_, y0', y1', y2', y3'⟩ := hHeld
      have hl6 := Leaves.from HXb.out hv6
      have hj6 := HJ3.out.only hl6.only HNA.out
      obtain ⟨S6, hS6, hs6, ho6⟩ := hl6
      have hna6 : ¬ S6 a := fun h => by rcases hS6 a h with h | h; exact HNA.out h; omega
      clear hv6 hb5 y0 y1 y2 y3 y5
      by_cases he2 : er2 = 0
      · have he2' : (er2 != 0) = false := by simp [he2]
        rw [if_neg (by simpa using he2)] at HCk
        have c1 := hj6.c1; have c2 := hj6.c2; have c3 := hj6.c3; have c4 := hj6.c4; have c5 := hj6.c5; have c7 := hj6.c7
        have f1 := hj6.f 1; have f2 := hj6.f 2; have f3 := hj6.f 3; have f4 := hj6.f 4; have f5 := hj6.f 5; have f7 := hj6.f 7
        have HJ6 := Lib.hid hj6; clear hj6
        have HS6 := Lib.hid hS6; have HSt6 := Lib.hid hs6; have HO6 := Lib.hid ho6; have HN6 := Lib.hid hna6
        clear hS6 hs6 ho6 hna6
        go_wp2_with fail
        go_region
        go_wp2
        go_ret
        have hE' : J.next' = ⟨E, J.next, J.log, q, 1 - J.side, J.next, 0⟩ := by unfold JS.next'; rw [HE.out, HPS.out, Nat.add_sub_cancel_left]
        have hO := ck_only w6 a E J.next J.log q (1 - J.side)
        have hJ := HJ6.out.ck E q (1 - J.side)
        rw [← hE'] at hJ
        refine ⟨by rw [HCk.out]; rfl, ?_⟩
        rw [HCk.out]
        exact JLeaves.next HS3.out (HO3.out.mono (fun _ _ h => .inl h)) ⟨S6, HS6.out, HSt6.out.kept hO (fun k hk hka => HN6.out (hka ▸ hk)), hJ, (HO6.out.mono (T := fun k => S3 k ∨ k = a) (fun _ _ h => .inl h)).trans hO (fun _ _ h => .inr h)⟩
      · have he2' : (er2 != 0) = true := by simp [he2]
        rw [if_pos (by simpa using he2)] at HCk
        have HF : Hid (JLeaves 85 S w w6 a p D2 J) := JLeaves.next HS3.out (HO3.out.mono (fun _ _ h => .inl h)) (JLeaves.of ⟨S6, hS6, hs6, ho6⟩ HJ3.out HNA.out)
        clear hj6 hS6 hs6 ho6 hna6
        go_wp2
        go_ret
        exact ⟨by rw [HCk.out]; rfl, by rw [HCk.out]; exact HF.out⟩
  · have he1' : (er1 != 0) = true := by simp [he1]
    rw [if_pos (by simpa using he1)] at HCk
    have HF : Hid (JLeaves 85 S w w3 a p D1 J) := JLeaves.of HV3.out HJ.out HA.out
    go_wp2
    go_ret
    exact ⟨by rw [HCk.out]; rfl, by rw [HCk.out]; exact HF.out⟩
end
end Go.Proofs.Ytodfcbpimglhdaa
/- What nextFrame answers: the writes of the frame behind those that are there, or nothing. -/
namespace Go.Proofs.Ytodfcbpimglhdaa
open Go.RowKit
open Fr (SlW SlS WritesAt StrsAt OwnS OwnW nmAt hd unp headB own_push one_cell one_one)

section
variable {S : Nat → Prop} {w w' : World} {a p : Nat} {J : JS} {D : DevS}

theorem DevS.Ok.rdB_size (ok : D.Ok) (j : Nat) (hj : j < D.disk.length) : (D.rdB j).size = 256 := by
  unfold DevS.rdB
  split
  · rename_i x hx
    have := List.mem_of_find?_eq_some hx
    exact (ok.pends x (List.mem_reverse.1 this)).2
  · rw [getD_lt _ _ hj]; exact ok.whole _ (List.getElem_mem hj)
theorem DevS.rd_live (hde : D.dead = false) (j : Nat) (hj : j < D.disk.length) : D.rd (j : Int) = (D.rdB j, 0) := by
  have : D.ck (j : Int) = 0 := by
    unfold DevS.ck; rw [hde]; simp; omega
  unfold DevS.rd; rw [this]; simp
/-- The first k blocks of a frame's data, as they are read. -/
def JS.readK (J : JS) (D : DevS) (k : Nat) : List ByteArray := D.rdB (J.pos 0) :: (List.range k).map fun i => D.rdB (J.pos (i + 1))
theorem readK_succ (J : JS) (D : DevS) (k : Nat) : J.readK D (k + 1) = J.readK D k ++ [D.rdB (J.pos (k + 1))] := by
  unfold JS.readK; rw [List.range_succ, List.map_append]; rfl
theorem readK_len (J : JS) (D : DevS) (k : Nat) : (J.readK D k).length = k + 1 := by simp [JS.readK]

theorem unp_seq (l : List ByteArray) : (unp l).1 < 18446744073709551616 := by
  cases l with
  | nil => show 0 < _; omega
  | cons s D =>
    rw [Fr.unp_cons]
    split
    · split
      · show Fr.seqOf _ < _
        have h1 := Fr.nmAt_lt s.data.toList 4; have h2 := Fr.nmAt_lt s.data.toList 8
        unfold Fr.seqOf; omega
      · show 0 < _; omega
    · show 0 < _; omega
theorem unp_some (l : List ByteArray) (h : ∀ d ∈ l, d.size = 256) : (unp l).2.1.length ≤ l.length ∧ ∀ x ∈ (unp l).2.1, x.2.size = 256 := by
  cases l with
  | nil => exact ⟨Nat.le_refl _, fun x hx => by cases hx⟩
  | cons s D =>
    rw [Fr.unp_cons]
    split
    · split
      · refine ⟨?_, fun x hx => ?_⟩
        · show ((Fr.blocksOf s.data.toList).zip (D.take (nmAt s.data.toList 12))).length ≤ _
          rw [List.length_zip, List.length_take, List.length_cons]; omega
        · have hx' : x ∈ (Fr.blocksOf s.data.toList).zip (D.take (nmAt s.data.toList 12)) := hx
          have := (List.of_mem_zip hx').2
          exact h _ (List.mem_cons_of_mem _ (List.mem_of_mem_take this))
      · exact ⟨Nat.zero_le _, fun x hx => by cases hx⟩
    · exact ⟨Nat.zero_le _, fun x hx => by cases hx⟩

set_option maxRecDepth 100000 in
set_option maxHeartbeats 2000000 in
theorem next_any (hj : Jr 85 w a p J) (hd : Stands S w p D) (ok : J.Ok D.disk.length) (hde : D.dead = false) (hp : D.pend.length ≤ 1000000) :
    Calls Try.prog 76 #[.pointer (some ⟨a, 0, none⟩)] w fun e w' => ∃ u, e = .returned (.tuple #[u, .int .i64 0]) ∧ OwnW w.heap.size w' u ((J.frameOf D).getD []) ∧ Below w.heap.size w w' := by
  obtain ⟨i0, hi, hz0, hz1, hz2⟩ := info_parts Try.infoS
  have HZ2 := Lib.hid hz2; clear hz2
  have hnd := hd.ok.few
  have hll := ok.l1
  have hfu := ok.fu
  have CB : Hid (∀ W i, J.full + i ≤ J.log → Below w.heap.size w W → Calls Try.prog 67 #[.pointer (some ⟨a, 0, none⟩), .int .i64 ((i : Nat) : Int)] W fun e w' => e = .returned (.int .i64 (J.pos i)) ∧ w' = W.drew) :=
    fun W i h hW => behind_drew i (hj.below hW) ok hnd h
  have CR : Hid (∀ W i, Below w.heap.size w W → Calls Try.prog 37 #[.pointer (some ⟨p, 0, none⟩), .int .i64 ((J.pos i : Nat) : Int)] W fun e w' => e = .returned (.tuple #[.string (D.rdB (J.pos i)), .int .i64 0]) ∧ Below W.heap.size W w') := fun W i hW => by
    have := read_any (J.pos i : Int) hp (hd.below hW)
    rw [DevS.rd_live hde _ (by have := ok.pos_lt i; omega)] at this
    exact this
  have CL : Hid (∀ W, Below w.heap.size w W → Calls Try.prog 62 #[.pointer (some ⟨a, 0, none⟩)] W fun e w' => e = .returned (.int .i64 J.left) ∧ w' = W.drew) := fun W hW => left_drew (hj.below hW) ok hnd
  have HSZ : Hid (∀ i, (D.rdB (J.pos i)).size = 256) := fun i => hd.ok.rdB_size _ (by have := ok.pos_lt i; omega)
  have CK : Hid (∀ W v L, Below w.heap.size w W → L.length ≤ 1000 → (∀ x ∈ L, x.2.size ≤ maxLen) → SlW W v L → Calls Try.prog 60 #[.pointer (some ⟨a, 0, none⟩), v] W fun e w' => e = .returned (.int .i64 ((J.chk D.disk.length L : Nat) : Int)) ∧ Below W.heap.size W w') :=
    fun W v L hW h1 h2 h3 => jcheck_any (hj.below hW) (hd.below hW) ok h1 h2 h3
  have ca := hj.c0
  have c6 := hj.c6
  have hal := hj.lt
  have CB0 : Hid (∀ W, Below w.heap.size w W → Calls Try.prog 67 #[.pointer (some ⟨a, 0, none⟩), .int .i64 0] W fun e w' => e = .returned (.int .i64 (J.pos 0)) ∧ w' = W.drew) := fun W hW => CB.out W 0 (by omega) hW
  have CR0 : Hid (∀ W, Below w.heap.size w W → Calls Try.prog 37 #[.pointer (some ⟨p, 0, none⟩), .int .i64 ((J.pos 0 : Nat) : Int)] W fun e w' => e = .returned (.tuple #[.string (D.rdB (J.pos 0)), .int .i64 0]) ∧ Below W.heap.size W w') := fun W hW => CR.out W 0 hW
  have HKp : Hid (∀ W, Below w.heap.size w W → W.cell? ⟨a, 0, none⟩ = some (.pointer (some ⟨p, 0, none⟩))) := fun W hW => (hW.cell (p := ⟨a, 0, none⟩) hal).trans ca
  have HK6 : Hid (∀ W, Below w.heap.size w W → W.cell? ⟨a, 6, none⟩ = some (.int .u64 (J.next : Int))) := fun W hW => (hW.cell (p := ⟨a, 6, none⟩) hal).trans c6
  clear hj hd c6
  have HOK := Lib.hid ok; clear ok
  have HFr : Hid (J.frameOf D = if headB (D.rdB (J.pos 0)).data.toList = true ∧ nmAt (D.rdB (J.pos 0)).data.toList 12 + 1 ≤ J.left ∧ (unp (J.readK D (nmAt (D.rdB (J.pos 0)).data.toList 12))).2.2 = 0 ∧ (unp (J.readK D (nmAt (D.rdB (J.pos 0)).data.toList 12))).1 = J.next ∧ J.chk D.disk.length (unp (J.readK D (nmAt (D.rdB (J.pos 0)).data.toList 12))).2.1 = 0
      then some (unp (J.readK D (nmAt (D.rdB (J.pos 0)).data.toList 12))).2.1 else none) := rfl
  obtain ⟨HD0, hHD0⟩ : ∃ x, D.rdB (J.pos 0) = x := ⟨_, rfl⟩
  have CH : Hid (∀ W, Calls Try.prog 94 #[.string HD0] W fun e w' => e = .returned (.tuple #[.int .u64 (((hd HD0).1 : Nat) : Int), .int .i64 (((hd HD0).2.1 : Nat) : Int), .bool (hd HD0).2.2]) ∧ Below W.heap.size W w') := fun W => Fr.head_any HD0 W
  rw [hHD0] at HFr CR0
  obtain ⟨n, hn⟩ : ∃ n, nmAt HD0.data.toList 12 = n := ⟨_, rfl⟩
  rw [hn] at HFr
  cases hB : headB HD0.data.toList with
  | false =>
    have HR : Hid (J.frameOf D = none) := by show _ = _; rw [HFr.out, if_neg (by rw [hB]; simp)]
    rw [Fr.headB_false hB] at CH
    clear hB HFr hn hHD0
    go_enter Try.func76, Try.ntmps76
    go_wp2_with fail
    go_region_held3 (fun W => W.cell? ⟨a, 0, none⟩ = some (.pointer (some ⟨p, 0, none⟩)))
      (first | exact ca | exact HKp.out _ (by assumption))
      (first | (go_at_call 67; refine (CB0.out _ ?_).mono ?_; exact (Below.refl _ _).drew; rintro e w' ⟨rfl, rfl⟩)
             | (go_at_call 37; refine (CR0.out _ ?_).mono ?_; exact ((Below.refl _ _).drew).drew; rintro r w1 ⟨rfl, hb1'⟩; have hb1 : Below w.heap.size w w1 := Fr.below_predrew (Fr.below_predrew hb1'); clear hb1'))
    all_goals
      have HB1 := Lib.hid hb1
      clear hb1
      go_wp2_with fail
      refine (CH.out _).mono ?_
      rintro e w2 ⟨rfl, hb2⟩
      have HB2 := Lib.hid (HB1.out.trans (hb2.mono HB1.out.size)); clear hb2
      go_wp2
      go_ret2
      exact ⟨_, rfl, by rw [HR.out]; exact OwnW.nil _ _, HB2.out⟩
  | true =>
    rw [Fr.headB_true hB] at CH
    have hn48 : 1 ≤ n ∧ n ≤ 48 := by rw [← hn]; exact ⟨((Fr.headB_iff _).1 hB).2.2.2.1, ((Fr.headB_iff _).1 hB).2.2.2.2.1⟩
    simp only [hn] at CH
    generalize Fr.seqOf HD0.data.toList = sq0 at *
    have hlf : J.left = J.log - J.full := rfl
    by_cases hlt : J.left < n + 1
    · have HR : Hid (J.frameOf D = none) := by show _ = _; rw [HFr.out, if_neg (fun h => by omega)]
      have hlt' : (J.left : Int) < (n : Int) + 1 := by omega
      clear hB HFr hn hHD0 hlf
      go_enter Try.func76, Try.ntmps76
      go_wp2_with fail
      go_region_held3 (fun W => W.cell? ⟨a, 0, none⟩ = some (.pointer (some ⟨p, 0, none⟩)))
        (first | exact ca | exact HKp.out _ (by assumption))
        (first | (go_at_call 67; refine (CB0.out _ ?_).mono ?_; exact (Below.refl _ _).drew; rintro e w' ⟨rfl, rfl⟩)
               | (go_at_call 37; refine (CR0.out _ ?_).mono ?_; exact ((Below.refl _ _).drew).drew; rintro r w1 ⟨rfl, hb1'⟩; have hb1 : Below w.heap.size w w1 := Fr.below_predrew (Fr.below_predrew hb1'); clear hb1'))
      all_goals
        have HB1 := Lib.hid hb1
        clear hb1
        go_wp2_with fail
        refine (CH.out _).mono ?_
        rintro e w2 ⟨rfl, hb2⟩
        have HB2 := Lib.hid (HB1.out.trans (hb2.mono HB1.out.size)); clear hb2
        go_wp2_with fail
        refine (CL.out _ HB2.out).mono ?_
        rintro e w3 ⟨rfl, rfl⟩
        go_wp2
        go_ret2
        exact ⟨_, rfl, by rw [HR.out]; exact OwnW.nil _ _, HB2.out.drew⟩
    · have hlt' : ¬ (J.left : Int) < (n : Int) + 1 := by omega
      have hfull : J.full + n + 1 ≤ J.log := by omega
      clear hn hlf
      go_enter Try.func76, Try.ntmps76
      go_wp2_with fail
      go_region_held3 (fun W => W.cell? ⟨a, 0, none⟩ = some (.pointer (some ⟨p, 0, none⟩)))
        (first | exact ca | exact HKp.out _ (by assumption))
        (first | (go_at_call 67; refine (CB0.out _ ?_).mono ?_; exact (Below.refl _ _).drew; rintro e w' ⟨rfl, rfl⟩)
               | (go_at_call 37; refine (CR0.out _ ?_).mono ?_; exact ((Below.refl _ _).drew).drew; rintro r w1 ⟨rfl, hb1'⟩; have hb1 : Below w.heap.size w w1 := Fr.below_predrew (Fr.below_predrew hb1'); clear hb1'))
      all_goals
        have HB1 := Lib.hid hb1
        clear hb1
        go_wp2_with fail
        refine (CH.out _).mono ?_
        rintro e w2 ⟨rfl, hb2⟩
        have HB2 := Lib.hid (HB1.out.trans (hb2.mono HB1.out.size)); clear hb2
        go_wp2_with fail
        refine (CL.out _ HB2.out).mono ?_
        rintro e w3 ⟨rfl, rfl⟩
        have hbr2 := HB2.out.size
        go_wp2_with fail
        have hO0 : OwnS w.heap.size (w2.alloc (.cells #[.string HD0] 9)) (.slice (some ⟨w2.heap.size, 0, none⟩) 1 1) [HD0] := World.ownsRow_lit w2 #[.string HD0] 1 hbr2 (by unfold maxLen; omega) rfl
        have HO : Hid (OwnS w.heap.size (w2.alloc (.cells #[.string HD0] 9)).drew (.slice (some ⟨w2.heap.size, 0, none⟩) 1 1) (J.readK D 0)) := by
          have := hO0.below ((Below.refl _ _).drew)
          unfold JS.readK; rw [hHD0]; exact this
        clear hO0
        have HBa : Hid (Below w.heap.size w (w2.alloc (.cells #[.string HD0] 9)).drew) := (HB2.out.alloc hbr2 _).drew
        generalize (w2.alloc (.cells #[.string HD0] 9)).drew = w6 at *
        generalize (.slice (some ⟨w2.heap.size, 0, none⟩) 1 1 : Value) = v6 at *
        clear HB1 HB2 hbr2 CH CL
        go_loopw [9, 46] (fun fv i wr => ∃ k : Nat, k ≤ n ∧ i = .int .i64 k ∧ Hid (OwnS w.heap.size wr fv (J.readK D k)) ∧ Hid (Below w.heap.size w wr)) (fun _ i _ => n - (intOf i).toNat)
        case atStart => exact ⟨0, Nat.zero_le _, rfl, HO, HBa⟩
        case round =>
          clear HO HBa
          obtain ⟨k, hk, rfl, HO, HB⟩ := hrel
          have hbr := HB.out.size
          have car := HKp.out _ HB.out
          by_cases hlk : k < n
          · have hlk' : (k : Int) < (n : Int) := by omega
            have CBk : Hid (∀ W, Below w.heap.size w W → Calls Try.prog 67 #[.pointer (some ⟨a, 0, none⟩), .int .i64 (1 + (k : Int))] W fun e w' => e = .returned (.int .i64 (J.pos (k + 1))) ∧ w' = W.drew) := fun W hW => by
              have := CB.out W (k + 1) (by omega) hW
              rw [show (((k + 1 : Nat)) : Int) = 1 + (k : Int) by omega] at this
              exact this
            have CRk : Hid (∀ W, Below w.heap.size w W → Calls Try.prog 37 #[.pointer (some ⟨p, 0, none⟩), .int .i64 ((J.pos (k + 1) : Nat) : Int)] W fun e w' => e = .returned (.tuple #[.string (D.rdB (J.pos (k + 1))), .int .i64 0]) ∧ Below W.heap.size W w') := fun W hW => CR.out W (k + 1) hW
            have HSN := Lib.hid (readK_succ J D k)
            have hlen : (J.readK D k).length ≤ 49 := by rw [readK_len]; omega
            obtain ⟨M, hM⟩ : ∃ M, J.readK D k = M := ⟨_, rfl⟩
            rw [hM] at HO HSN hlen
            clear hM
            generalize D.rdB (J.pos (k + 1)) = pt at *
            generalize J.pos (k + 1) = pi at *
            have w1k : IntKind.i64.wrap (1 + (k : Int)) = 1 + (k : Int) := IntWalk.i64_in _ (by omega)
            go_wp2_with fail
            go_region_held3 (fun W => W.cell? ⟨a, 0, none⟩ = some (.pointer (some ⟨p, 0, none⟩)))
              (first | exact car | exact HKp.out _ (by assumption))
              (first | (go_at_call 67; refine (CBk.out _ ?_).mono ?_; exact HB.out.drew; rintro e w' ⟨rfl, rfl⟩)
                     | (go_at_call 37; refine (CRk.out _ ?_).mono ?_; exact (HB.out.drew).drew; rintro r w7 ⟨rfl, hb7'⟩; have hb7 : Below w.heap.size w w7 := HB.out.trans ((Fr.below_predrew (Fr.below_predrew hb7')).mono hbr); have HO7 := Lib.hid (HO.out.below (Fr.below_predrew (Fr.below_predrew hb7'))); clear hb7'))
            all_goals
              have HB7 := Lib.hid hb7
              clear hb7 HO
              have hbr7 := HB7.out.size
              go_wp2_with (at_builtin; go_loud (refine wpList_append_own _ rfl _ _ 22 rfl w.heap.size 9 i0 _ 1 16 Try.underlying22 hi hz0 hz1 HZ2.out rfl (by decide) _ _ _ rfl (HO7.out.alloc _) _ 1 1 [.string pt] rfl rfl (one_cell rfl) one_one ?c3 ?c4 ?c5 ?_))
              case c3 => unfold maxLen; omega
              case c4 => omega
              case c5 => simp; omega
              intro v1 w8 hown hgrow _
              have HO8 : Hid (OwnS w.heap.size w8 v1 (J.readK D (k + 1))) := by
                show OwnS _ _ _ _
                rw [HSN.out]; exact own_push hown
              have HB8 : Hid (Below w.heap.size w w8) := ((HB7.out.alloc hbr7 _).grown hgrow (by simp; omega) (fun q hq => (HO7.out.lt q hq).1))
              clear hown hgrow
              go_wp2
              go_roundw
              case rel => exact ⟨k + 1, by omega, by go_num, HO8, HB8⟩
              case measure => simp [intOf]; omega
          · have hkn : k = n := by omega
            subst hkn
            have hlk' : ¬ (k : Int) < (k : Int) := by omega
            have hcu : ∀ d ∈ J.readK D k, d.size = 256 := fun d hd => by
              unfold JS.readK at hd
              rcases List.mem_cons.1 hd with rfl | hd
              · exact HSZ.out 0
              · obtain ⟨i, _, rfl⟩ := List.mem_map.1 hd; exact HSZ.out (i + 1)
            have CU := Lib.hid (Fr.unpack_any (J.readK D k) u9 wr (by rw [readK_len]; omega) (fun d hd => by rw [hcu d hd]; unfold maxLen; omega) HO.out.sl)
            clear hcu
            have c6r := HK6.out _ HB.out
            obtain ⟨ao9, c9, hv9, _⟩ := HO.out.sl
            subst hv9
            go_wp2_with fail
            refine CU.out.mono ?_
            rintro e w7 ⟨u, rfl, hu7, hb7⟩
            have HB7 := Lib.hid (HB.out.trans (hb7.mono hbr))
            have HU7 := Lib.hid (hu7.mono hbr)
            clear hu7 hb7 CU c6r
            have c67 := HK6.out _ HB7.out
            have hF2 : J.frameOf D = if (unp (J.readK D k)).2.2 = 0 ∧ (unp (J.readK D k)).1 = J.next ∧ J.chk D.disk.length (unp (J.readK D k)).2.1 = 0 then some (unp (J.readK D k)).2.1 else none := by
              rw [HFr.out]
              by_cases hX : (unp (J.readK D k)).2.2 = 0 ∧ (unp (J.readK D k)).1 = J.next ∧ J.chk D.disk.length (unp (J.readK D k)).2.1 = 0
              · rw [if_pos hX, if_pos ⟨hB, by omega, hX⟩]
              · rw [if_neg hX, if_neg (fun h => hX h.2.2)]
            have HF2 := Lib.hid hF2; clear hF2 HFr
            have hws : (unp (J.readK D k)).2.1.length ≤ 1000 ∧ ∀ x ∈ (unp (J.readK D k)).2.1, x.2.size ≤ maxLen := by
              have h1 := unp_some (J.readK D k) (fun d hd => by
                unfold JS.readK at hd
                rcases List.mem_cons.1 hd with rfl | hd
                · exact HSZ.out 0
                · obtain ⟨i, _, rfl⟩ := List.mem_map.1 hd; exact HSZ.out (i + 1))
              rw [readK_len] at h1
              exact ⟨by omega, fun x hx => by rw [h1.2 x hx]; unfold maxLen; omega⟩
            have HC7 : Hid (∀ W, Below w7.heap.size w7 W → Calls Try.prog 60 #[.pointer (some ⟨a, 0, none⟩), u] W fun e w' => e = .returned (.int .i64 ((J.chk D.disk.length (unp (J.readK D k)).2.1 : Nat) : Int)) ∧ Below W.heap.size W w') :=
              fun W hW => CK.out W u _ (HB7.out.trans (hW.mono HB7.out.size)) hws.1 hws.2 (HU7.out.sl.below hW)
            clear hws CK
            have hn64 : (unp (J.readK D k)).1 < 18446744073709551616 := unp_seq _
            have hx64 := HOK.out.n64
            generalize unp (J.readK D k) = U at *
            obtain ⟨sq, ws, er⟩ := U
            simp only at HF2 HC7 HU7 hn64 ⊢
            generalize J.chk D.disk.length ws = ck at *
            obtain ⟨ao10, c10, hv10, _⟩ := HU7.out.sl
            subst hv10
            have HNil : Hid (∀ W, Below w.heap.size w W → OwnW w.heap.size W (.slice none 0 0) []) := fun W _ => OwnW.nil _ _
            by_cases h1 : er = 0
            · have h1' : (((er : Nat) : Int) != 0) = false := by simp [h1]
              by_cases h2 : sq = J.next
              · have h2' : (((sq : Nat) : Int) != (J.next : Int)) = false := by simp [h2]
                by_cases h3 : ck = 0
                · have h3' : (((ck : Nat) : Int) != 0) = false := by simp [h3]
                  rw [if_pos ⟨h1, h2, h3⟩] at HF2
                  clear h1 h2 h3
                  go_wp2_with fail
                  refine (HC7.out _ (Below.refl _ _)).mono ?_
                  rintro e w8 ⟨rfl, hb8⟩
                  have HB8 := Lib.hid (HB7.out.trans (hb8.mono HB7.out.size))
                  have HU8 := Lib.hid (HU7.out.below hb8)
                  clear hb8
                  go_wp2
                  go_ret2
                  exact ⟨_, rfl, by rw [HF2.out]; exact HU8.out, HB8.out⟩
                · have h3' : (((ck : Nat) : Int) != 0) = true := by simp [h3]
                  rw [if_neg (fun h => h3 h.2.2)] at HF2
                  clear h1 h2 h3
                  go_wp2_with fail
                  refine (HC7.out _ (Below.refl _ _)).mono ?_
                  rintro e w8 ⟨rfl, hb8⟩
                  have HB8 := Lib.hid (HB7.out.trans (hb8.mono HB7.out.size))
                  clear hb8
                  go_wp2
                  go_ret2
                  exact ⟨_, rfl, by rw [HF2.out]; exact OwnW.nil _ _, HB8.out⟩
              · have h2' : (((sq : Nat) : Int) != (J.next : Int)) = true := by simp; omega
                rw [if_neg (fun h => h2 h.2.1)] at HF2
                clear h1 h2
                go_wp2
                go_ret2
                exact ⟨_, rfl, by rw [HF2.out]; exact OwnW.nil _ _, HB7.out⟩
            · have h1' : (((er : Nat) : Int) != 0) = true := by simp [h1]
              rw [if_neg (fun h => h1 h.1)] at HF2
              clear h1
              go_wp2
              go_ret2
              exact ⟨_, rfl, by rw [HF2.out]; exact OwnW.nil _ _, HB7.out⟩
end
end Go.Proofs.Ytodfcbpimglhdaa

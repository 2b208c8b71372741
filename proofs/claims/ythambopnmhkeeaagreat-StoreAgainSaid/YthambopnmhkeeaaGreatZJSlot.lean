/- What noughts, wide, toWide, a slot's text and readSlot answer. -/
import Derived.Test.YthambopnmhkeeaaGreatZFUnpR
import Derived.Test.YthambopnmhkeeaaGreatZFBase
import Derived.Handy
import Derived.BigRegion
import Derived.Lib.MinMax
import Derived.BigQuiet
import Derived.Deep.QuietTactic

set_option maxRecDepth 100000
namespace Go.Proofs.YthambopnmhkeeaaGreat
open Go.RowKit
open Fr (bs fixL nmAt fix_name fixed_to bs_append bs_len toFixed_at or64 nmAt_lt bs_data str_len bs_ext)
theorem noughts_bs : noughts = bs (List.replicate 256 0) := by
 unfold noughts bs; rw [Fr.repeat_zero]
set_option maxHeartbeats 400000 in
theorem jnoughts_to (x : Int) (T : ByteArray) (w : World) (C : Hid (Calls Tryz.prog 66 #[.string ⟨#[0]⟩, .int .i64 x] w fun e w' => e = .returned (.string T) /\ Below w.heap.size w w')) :
  Calls Tryz.prog 121 #[.int .i64 x] w fun e w' => e = .returned (.string T) /\ Below w.heap.size w w' := by
 go_enter Tryz.func121, Tryz.ntmps121
 go_wp2_with fail
 refine C.out.mono ?_
 rintro e w1 ⟨rfl, hb⟩
 have HB := Lib.hid hb; clear hb
 go_wp2
 go_ret
 exact ⟨rfl, HB.out⟩
theorem jnoughts_any (x : Int) (c : Nat) (w : World) (h : x = (c : Int)) (h2 : 2 <= c) (hc : c <= 1000) :
  Calls Tryz.prog 121 #[.int .i64 x] w fun e w' => e = .returned (.string (bs (List.replicate c 0))) /\ Below w.heap.size w w' :=
 jnoughts_to x _ w (Fr.noughts_any x c w h h2 hc)
theorem jnoughts_all (w : World) : Calls Tryz.prog 121 #[.int .i64 256] w fun e w' => e = .returned (.string noughts) /\ Below w.heap.size w w' := by
 rw [noughts_bs]; exact jnoughts_any 256 256 w rfl (by omega) (by omega)
def wideL (v : Nat) : List UInt8 := fixL (v % 4294967296) ++ fixL (v / 4294967296)
set_option maxHeartbeats 400000 in
theorem wide_any (v : Nat) (t : ByteArray) (w : World) (hv : v < 18446744073709551616) (ht : Hid (bs (wideL v) = t)) :
  Calls Tryz.prog 171 #[.int .u64 (v : Int)] w fun e w' => e = .returned (.string t) /\ Below w.heap.size w w' := by
 obtain ⟨t1, z1, H1⟩ := fix_name (v % 4294967296)
 obtain ⟨t2, z2, H2⟩ := fix_name (v / 4294967296)
 have HT : Hid (t1 ++ t2 = t) := by show _ = _; rw [<- ht.out, <- H1.out, <- H2.out, bs_append]; rfl
 clear ht
 go_enter Tryz.func171, Tryz.ntmps171
 go_wp2_with fail
 refine (fixed_to _ _ _ _ (by omega) (by omega) H1).mono ?_
 rintro e w2 ⟨rfl, hb2⟩
 have HB2 := Lib.hid hb2; clear hb2
 go_wp2_with fail
 refine (fixed_to _ _ _ _ (by omega) (by omega) H2).mono ?_
 rintro e w3 ⟨rfl, hb3⟩
 have HB3 : Hid (Below w.heap.size w w3) := HB2.out.trans (hb3.mono HB2.out.size)
 clear hb3 HB2
 go_wp2
 go_ret
 exact ⟨by rw [HT.out]; rfl, HB3.out⟩
set_option maxHeartbeats 400000 in
theorem toWide_any (l : List UInt8) (k : Nat) (T T2 : ByteArray) (w : World) (hl : k + 8 <= l.length) (hm : l.length <= 1000) (h1 : T = bs (l.drop k)) (h2 : T2 = bs (l.drop (k + 8))) :
  Calls Tryz.prog 203 #[.string T] w fun e w' => e = .returned (.tuple #[.int .u64 ((wideAt l k : Nat) : Int), .string T2]) /\ Below w.heap.size w w' := by
 obtain ⟨T3, HT3⟩ : ∃ T3, Hid (T3 = bs (l.drop (k + 4))) := ⟨_, rfl⟩
 have h2' : T2 = bs (l.drop (k + 4 + 4)) := by rw [h2]
 have F1 := Lib.hid (fun W => toFixed_at W h1 HT3.out (by omega) (by omega))
 have F2 := Lib.hid (fun W => toFixed_at W HT3.out h2' (by omega) (by omega))
 have x1 := nmAt_lt l k
 have x2 := nmAt_lt l (k + 4)
 have HW : Hid (bits .or .u64 ((nmAt l (k + 4) : Int) * 4294967296) (nmAt l k : Int) = (wideAt l k : Int)) := or64 _ _ x2 x1
 clear h1 h2 h2'
 generalize wideAt l k = wd at *
 generalize nmAt l k = lo at *
 generalize nmAt l (k + 4) = hi at *
 go_enter Tryz.func203, Tryz.ntmps203
 go_wp2_with fail
 refine (F1.out _).mono ?_
 rintro e w2 ⟨rfl, hb2⟩
 have HB2 := Lib.hid hb2; clear hb2
 go_wp2_with fail
 refine (F2.out _).mono ?_
 rintro e w3 ⟨rfl, hb3⟩
 have HB3 : Hid (Below w.heap.size w w3) := HB2.out.trans (hb3.mono HB2.out.size)
 clear hb3 HB2
 go_wp2
 go_ret2
 exact ⟨by rw [<- HW.out]; rfl, HB3.out⟩
theorem held_four {w0 W W' : World} {g : Nat} {v0 v1 v2 v3 : Value} (hg : g < w0.heap.size) (h : Below w0.heap.size w0 W /\ W.cell? ⟨g, 0, none⟩ = some v0 /\ W.cell? ⟨g, 1, none⟩ = some v1 /\ W.cell? ⟨g, 2, none⟩ = some v2 /\ W.cell? ⟨g, 3, none⟩ = some v3) (hb : Below W.heap.size W W') :
  Below w0.heap.size w0 W' /\ W'.cell? ⟨g, 0, none⟩ = some v0 /\ W'.cell? ⟨g, 1, none⟩ = some v1 /\ W'.cell? ⟨g, 2, none⟩ = some v2 /\ W'.cell? ⟨g, 3, none⟩ = some v3 := by
 have hl : g < W.heap.size := Nat.lt_of_lt_of_le hg h.1.size
 exact ⟨h.1.trans (hb.mono h.1.size), (hb.cell (p := ⟨g, 0, none⟩) hl).trans h.2.1, (hb.cell (p := ⟨g, 1, none⟩) hl).trans h.2.2.1, (hb.cell (p := ⟨g, 2, none⟩) hl).trans h.2.2.2.1, (hb.cell (p := ⟨g, 3, none⟩) hl).trans h.2.2.2.2⟩
theorem u32_in (x : Int) (h : 0 <= x /\ x < 4294967296) : IntKind.u32.wrap x = x := by
 simp [IntKind.wrap, IntKind.bits, IntKind.signed]; omega
theorem half_parts (e s log p : Nat) : halfL e s log p = [67, 68, 88, 83] ++ wideL e ++ wideL s ++ fixL log ++ fixL p ++ List.replicate 100 0 := by
 unfold halfL wideL; simp only [List.append_assoc]
set_option maxHeartbeats 1000000 in
theorem text_any (e s log p : Nat) (w : World) (he : e < 18446744073709551616) (hs : s < 18446744073709551616) (hl : log <= 4096) (hp : p <= 4096) :
  Calls Tryz.prog 123 #[.agg #[.int .u64 (e : Int), .int .u64 (s : Int), .int .i64 (log : Int), .int .i64 (p : Int)]] w fun r w' => r = .returned (.string (slotB e s log p)) /\ Below w.heap.size w w' := by
 obtain ⟨WT, hWT⟩ : ∃ f : Nat -> ByteArray, f = fun v => bs (wideL v) := ⟨_, rfl⟩
 obtain ⟨FT, hFT⟩ : ∃ f : Int -> ByteArray, f = fun v => bs (fixL v.toNat) := ⟨_, rfl⟩
 have z1 : (WT e).size <= 8 := by rw [hWT]; exact Nat.le_refl _
 have z2 : (WT s).size <= 8 := by rw [hWT]; exact Nat.le_refl _
 have z3 : (FT (log : Int)).size <= 4 := by rw [hFT]; exact Nat.le_refl _
 have z4 : (FT (p : Int)).size <= 4 := by rw [hFT]; exact Nat.le_refl _
 have CW : Hid (∀ (v : Nat) (W : World), v < 18446744073709551616 -> Calls Tryz.prog 171 #[.int .u64 (v : Int)] W fun r w' => r = .returned (.string (WT v)) /\ Below W.heap.size W w') := fun v W hv => wide_any v _ W hv (by rw [hWT]; rfl)
 have CF : Hid (∀ (x : Int) (W : World), 0 <= x -> x < 4294967296 -> Calls Tryz.prog 135 #[.int .u32 x] W fun r w' => r = .returned (.string (FT x)) /\ Below W.heap.size W w') := fun x W h0 h1 => fixed_to x x.toNat _ W (by omega) (by omega) (by rw [hFT]; rfl)
 obtain ⟨X, hX⟩ : ∃ X, ⟨#[67, 68, 88, 83]⟩ ++ WT e ++ WT s ++ FT (log : Int) ++ FT (p : Int) = X := ⟨_, rfl⟩
 have hXe : X = bs ([67, 68, 88, 83] ++ wideL e ++ wideL s ++ fixL log ++ fixL p) := by
  rw [<- hX, hWT, hFT]
  show ((((bs [67, 68, 88, 83] ++ bs (wideL e)) ++ bs (wideL s)) ++ bs (fixL log)) ++ bs (fixL p)) = _
  rw [bs_append, bs_append, bs_append, bs_append]
 have zX : X.size = 28 := by rw [hXe, bs_len]; rfl
 obtain ⟨Z, hZ⟩ : ∃ Z, bs (List.replicate 100 0) = Z := ⟨_, rfl⟩
 clear hWT hFT
 have CN := Lib.hid (fun W => jnoughts_any (128 - (X.size : Int)) 100 W (by omega) (by omega) (by omega))
 rw [hZ] at CN
 have zZ : Z.size <= 100 := by rw [<- hZ, bs_len, List.length_replicate]; exact Nat.le_refl _
 have HF : Hid ((X ++ Z) ++ (X ++ Z) = slotB e s log p) := by
  show _ = _
  unfold slotB
  rw [half_parts, hXe, <- hZ, bs_append, bs_append]
 have z0 : X.size <= 28 := by omega
 have z0' : 28 <= X.size := by omega
 clear hXe zX hZ
 obtain ⟨w0, hw0⟩ : ∃ w0, w.alloc (.cells #[.int .u64 (e : Int), .int .u64 (s : Int), .int .i64 (log : Int), .int .i64 (p : Int)] 102) = w0 := ⟨_, rfl⟩
 have hb0 : w0.heap[w.heap.size]? = some (.cells #[.int .u64 (e : Int), .int .u64 (s : Int), .int .i64 (log : Int), .int .i64 (p : Int)] 102 (0, 0)) := by rw [<- hw0, heap_alloc_new]
 have HB0 : Hid (Below w.heap.size w w0) := by rw [<- hw0]; exact (Below.refl _ _).alloc (Nat.le_refl _) _
 have c0 : w0.cell? ⟨w.heap.size, 0, none⟩ = some (.int .u64 (e : Int)) := by rw [cell_at hb0]; rfl
 have c1 : w0.cell? ⟨w.heap.size, 1, none⟩ = some (.int .u64 (s : Int)) := by rw [cell_at hb0]; rfl
 have c2 : w0.cell? ⟨w.heap.size, 2, none⟩ = some (.int .i64 (log : Int)) := by rw [cell_at hb0]; rfl
 have c3 : w0.cell? ⟨w.heap.size, 3, none⟩ = some (.int .i64 (p : Int)) := by rw [cell_at hb0]; rfl
 have hlt : w.heap.size < w0.heap.size := (Array.getElem?_eq_some_iff.1 hb0).1
 clear hb0
 have HW0 := Lib.hid hw0; clear hw0
 have b1 : ¬ 9223372036854775807 < 4 + (WT e).size := by omega
 have b2 : ¬ 9223372036854775807 < 4 + (WT e).size + (WT s).size := by omega
 have b3 : ¬ 9223372036854775807 < 4 + (WT e).size + (WT s).size + (FT (log : Int)).size := by omega
 have b4 : ¬ 9223372036854775807 < 4 + (WT e).size + (WT s).size + (FT (log : Int)).size + (FT (p : Int)).size := by omega
 have wl : IntKind.u32.wrap (log : Int) = (log : Int) := u32_in _ (by omega)
 have wp : IntKind.u32.wrap (p : Int) = (p : Int) := u32_in _ (by omega)
 go_enter Tryz.func123, Tryz.ntmps123
 go_wp2_with fail
 rw [HW0.out]
 go_region_held3 (fun W => Below w0.heap.size w0 W /\ W.cell? ⟨w.heap.size, 0, none⟩ = some (.int .u64 (e : Int)) /\ W.cell? ⟨w.heap.size, 1, none⟩ = some (.int .u64 (s : Int)) /\ W.cell? ⟨w.heap.size, 2, none⟩ = some (.int .i64 (log : Int)) /\ W.cell? ⟨w.heap.size, 3, none⟩ = some (.int .i64 (p : Int)))
  (first | exact ⟨(Below.refl _ _).drew, c0, c1, c2, c3⟩ | exact held_four hlt (by assumption) (by assumption) | exact held_four hlt (by assumption) (Below.refl _ _))
  (first
   | (go_at_call 171; refine (CW.out _ _ ?_).mono ?_; (first | exact he | exact hs); rintro r w' ⟨rfl, hbx⟩)
   | (go_at_call 135; refine (CF.out _ _ ?_ ?_).mono ?_; omega; omega; rintro r w' ⟨rfl, hbx⟩))
 rename_i hHeld
 have HB1 : Hid (Below w.heap.size w w') := HB0.out.trans (hHeld.1.mono (Nat.le_of_lt hlt))
 clear hHeld hbx b1 b2 b3 b4 wl wp c0 c1 c2 c3
 go_wp2_with fail
 refine (CN.out _).mono ?_
 rintro r w2 ⟨rfl, hb2⟩
 have HB2 : Hid (Below w.heap.size w w2) := HB1.out.trans (hb2.mono HB1.out.size)
 clear hb2 HB1
 go_wp2
 go_ret
 exact ⟨by rw [<- HF.out]; rfl, HB2.out⟩
theorem rdSlot_iff (t : ByteArray) (n : Nat) (x : Nat × Nat × Nat × Nat) : rdSlot t n = some x ↔ (50 <= nmAt t.data.toList 20 /\ nmAt t.data.toList 20 + 3 <= n /\ nmAt t.data.toList 24 < nmAt t.data.toList 20 /\ t = slotB (wideAt t.data.toList 4) (wideAt t.data.toList 12) (nmAt t.data.toList 20) (nmAt t.data.toList 24)) /\ x = (wideAt t.data.toList 4, wideAt t.data.toList 12, nmAt t.data.toList 20, nmAt t.data.toList 24) := by
 unfold rdSlot
 show (if _ then _ else _) = _ ↔ _
 split
 ·rename_i h; simp only [Option.some.injEq]; exact ⟨fun e => ⟨h, e.symm⟩, fun e => e.2.symm⟩
 ·rename_i h; exact ⟨fun e => (by cases e), fun e => absurd e.1 h⟩
theorem wideAt_lt (l : List UInt8) (i : Nat) : wideAt l i < 18446744073709551616 := by
 have h1 := nmAt_lt l i; have h2 := nmAt_lt l (i + 4); unfold wideAt; omega
def slotV (x : Option (Nat × Nat × Nat × Nat)) : Value := match x with
 | none => .tuple #[.agg #[.int .u64 0, .int .u64 0, .int .i64 0, .int .i64 0], .bool false]
 | some x => .tuple #[.agg #[.int .u64 (x.1 : Int), .int .u64 (x.2.1 : Int), .int .i64 (x.2.2.1 : Int), .int .i64 (x.2.2.2 : Int)], .bool true]
theorem results_slot (tmps : Array Value) (g : Nat) (Y : World) (b : Bool) (x0 x1 x2 x3 : Int) (h4 : tmps.getD 4 undef = .pointer (some ⟨g, 0, none⟩)) (h5 : tmps.getD 5 undef = .bool b)
  (hY : Y.heap[g]? = some (.cells #[.int .u64 x0, .int .u64 x1, .int .i64 x2, .int .i64 x3] 102 (0, 0))) :
  (results Tryz.f172 tmps).run Tryz.prog Y = .ok (.tuple #[.agg #[.int .u64 x0, .int .u64 x1, .int .i64 x2, .int .i64 x3], .bool b]) Y := by
 have y0 : Y.cell? ⟨g, 0, none⟩ = some (.int .u64 x0) := by rw [cell_at hY]; rfl
 have y1 : Y.cell? ⟨g, 1, none⟩ = some (.int .u64 x1) := by rw [cell_at hY]; rfl
 have y2 : Y.cell? ⟨g, 2, none⟩ = some (.int .i64 x2) := by rw [cell_at hY]; rfl
 have y3 : Y.cell? ⟨g, 3, none⟩ = some (.int .i64 x3) := by rw [cell_at hY]; rfl
 rw [Array.getD_eq_getD_getElem?] at h4 h5
 simp [results, Tryz.results172, go_sem, h4, h5, y0, y1, y2, y3]
set_option maxHeartbeats 2000000 in
theorem readSlot_any (t : ByteArray) (n : Nat) (w : World) (ht : t.size = 256) (hn : n <= 4096) :
  Calls Tryz.prog 172 #[.string t, .int .i64 (n : Int)] w fun r w' => r = .returned (slotV (rdSlot t n)) /\ Below w.heap.size w w' := by
 obtain ⟨l, hl⟩ : ∃ l, t.data.toList = l := ⟨_, rfl⟩
 have hll : l.length = 256 := by rw [<- hl, str_len, ht]
 have HI := Lib.hid (rdSlot_iff t n)
 rw [hl] at HI
 obtain ⟨T1, hT1⟩ : ∃ T, t.extract 4 t.size = T := ⟨_, rfl⟩
 have h1 : T1 = bs (l.drop 4) := by rw [<- hT1, Fr.ext_eq t l hl]
 obtain ⟨T2, h2⟩ : ∃ T2, T2 = bs (l.drop 12) := ⟨_, rfl⟩
 obtain ⟨T3, h3⟩ : ∃ T3, T3 = bs (l.drop 20) := ⟨_, rfl⟩
 obtain ⟨T4, h4⟩ : ∃ T4, T4 = bs (l.drop 24) := ⟨_, rfl⟩
 obtain ⟨T5, h5⟩ : ∃ T5, T5 = bs (l.drop 28) := ⟨_, rfl⟩
 have F1 := Lib.hid (fun W => toWide_any l 4 T1 T2 W (by omega) (by omega) h1 h2)
 have F2 := Lib.hid (fun W => toWide_any l 12 T2 T3 W (by omega) (by omega) h2 h3)
 have F3 := Lib.hid (fun W => toFixed_at (k := 20) W h3 h4 (by omega) (by omega))
 have F4 := Lib.hid (fun W => toFixed_at (k := 24) W h4 h5 (by omega) (by omega))
 have x4 := wideAt_lt l 4; have x12 := wideAt_lt l 12; have x20 := nmAt_lt l 20; have x24 := nmAt_lt l 24
 clear h1 h2 h3 h4 h5 hl hll
 generalize wideAt l 4 = e at *
 generalize wideAt l 12 = s at *
 generalize nmAt l 20 = log at *
 generalize nmAt l 24 = p at *
 have i4 : (4 : Int) <= (t.size : Int) := by omega
 have CF := Lib.hid (fun W => fits_any (w := W) (log : Int) n hn)
 have CT := Lib.hid (fun W (h : log <= 4096) (h2 : p <= 4096) => text_any e s log p W x4 x12 h h2)
 clear ht
 obtain ⟨A0, hA0⟩ : ∃ A0, w.alloc (.cells #[.int .u64 0, .int .u64 0, .int .i64 0, .int .i64 0] 102) = A0 := ⟨_, rfl⟩
 have hr0 : A0.heap[w.heap.size]? = some (.cells #[.int .u64 0, .int .u64 0, .int .i64 0, .int .i64 0] 102 (0, 0)) := by rw [<- hA0, heap_alloc_new]
 have HB0 : Hid (Below w.heap.size w A0) := by rw [<- hA0]; exact (Below.refl _ _).alloc (Nat.le_refl _) _
 have hz0 : w.heap.size < A0.heap.size := (Array.getElem?_eq_some_iff.1 hr0).1
 have HR0 := Lib.hid hr0; clear hr0
 have HA0 := Lib.hid hA0; clear hA0
 go_enter Tryz.func172, Tryz.ntmps172
 go_wp2_with fail
 rw [HA0.out]
 refine (F1.out _).mono ?_
 rintro r w1 ⟨rfl, hb1⟩
 have HB1 := Lib.hid hb1; clear hb1
 go_wp2_with fail
 refine (F2.out _).mono ?_
 rintro r w2 ⟨rfl, hb2⟩
 have HB2 := Lib.hid (HB1.out.trans (hb2.mono HB1.out.size)); clear hb2 HB1
 go_wp2_with fail
 refine (F3.out _).mono ?_
 rintro r w3 ⟨rfl, hb3⟩
 have HB3 := Lib.hid (HB2.out.trans (hb3.mono HB2.out.size)); clear hb3 HB2
 go_wp2_with fail
 refine (F4.out _).mono ?_
 rintro r w4 ⟨rfl, hb4⟩
 have HB4 := Lib.hid (HB3.out.trans (hb4.mono HB3.out.size)); clear hb4 HB3
 have hz4 := HB4.out.size
 obtain ⟨X, hX⟩ : ∃ X, w4.alloc (.cells #[.int .u64 (e : Int), .int .u64 (s : Int), .int .i64 (log : Int), .int .i64 (p : Int)] 102) = X := ⟨_, rfl⟩
 have hXh : X.heap[w4.heap.size]? = some (.cells #[.int .u64 (e : Int), .int .u64 (s : Int), .int .i64 (log : Int), .int .i64 (p : Int)] 102 (0, 0)) := by rw [<- hX, heap_alloc_new]
 have HXB : Hid (Below A0.heap.size A0 X) := by rw [<- hX]; exact HB4.out.alloc hz4 _
 have k0 : X.cell? ⟨w4.heap.size, 0, none⟩ = some (.int .u64 (e : Int)) := by rw [cell_at hXh]; rfl
 have k1 : X.cell? ⟨w4.heap.size, 1, none⟩ = some (.int .u64 (s : Int)) := by rw [cell_at hXh]; rfl
 have k2 : X.cell? ⟨w4.heap.size, 2, none⟩ = some (.int .i64 (log : Int)) := by rw [cell_at hXh]; rfl
 have k3 : X.cell? ⟨w4.heap.size, 3, none⟩ = some (.int .i64 (p : Int)) := by rw [cell_at hXh]; rfl
 have hzX : w4.heap.size < X.heap.size := (Array.getElem?_eq_some_iff.1 hXh).1
 have hrX := (HXB.out.block _ hz0).trans HR0.out
 have r0 : X.cell? ⟨w.heap.size, 0, none⟩ = some (.int .u64 0) := by rw [cell_at hrX]; rfl
 have r1 : X.cell? ⟨w.heap.size, 1, none⟩ = some (.int .u64 0) := by rw [cell_at hrX]; rfl
 have r2 : X.cell? ⟨w.heap.size, 2, none⟩ = some (.int .i64 0) := by rw [cell_at hrX]; rfl
 have r3 : X.cell? ⟨w.heap.size, 3, none⟩ = some (.int .i64 0) := by rw [cell_at hrX]; rfl
 have q0 : X.frozen? ⟨w.heap.size, 0, none⟩ = false := free_at hrX 0
 have q1 : X.frozen? ⟨w.heap.size, 1, none⟩ = false := free_at hrX 1
 have q2 : X.frozen? ⟨w.heap.size, 2, none⟩ = false := free_at hrX 2
 have q3 : X.frozen? ⟨w.heap.size, 3, none⟩ = false := free_at hrX 3
 have HWX : Hid (Below w.heap.size w X) := HB0.out.trans (HXB.out.mono (Nat.le_of_lt hz0))
 have HRX := Lib.hid hrX
 clear hXh hrX
 have HX := Lib.hid hX; clear hX
 have fin : Hid (∀ (X5 : World) (x0 x1 x2 x3 : Int) (b : Bool) (tmps : Array Value), Below X.heap.size X X5 -> tmps.getD 4 undef = .pointer (some ⟨w.heap.size, 0, none⟩) -> tmps.getD 5 undef = .bool b ->
   (rdSlot t n = none /\ x0 = 0 /\ x1 = 0 /\ x2 = 0 /\ x3 = 0 /\ b = false) \/ (rdSlot t n = some (e, s, log, p) /\ x0 = (e : Int) /\ x1 = (s : Int) /\ x2 = (log : Int) /\ x3 = (p : Int) /\ b = true) ->
   bodyPost Tryz.prog Tryz.f172 (fun r w' => r = .returned (slotV (rdSlot t n)) /\ Below w.heap.size w w') .ret ⟨tmps, []⟩ ((((X5.setCell ⟨w.heap.size, 0, none⟩ (.int .u64 x0)).setCell ⟨w.heap.size, 1, none⟩ (.int .u64 x1)).setCell ⟨w.heap.size, 2, none⟩ (.int .i64 x2)).setCell ⟨w.heap.size, 3, none⟩ (.int .i64 x3))) := by
  intro X5 x0 x1 x2 x3 b tmps h5 ht4 ht5 hc
  have h0 := (h5.block _ (Nat.lt_of_lt_of_le hz0 HXB.out.size)).trans HRX.out
  have h4 := heap_setCell_at (i := 3) (heap_setCell_at (i := 2) (heap_setCell_at (i := 1) (heap_setCell_at (i := 0) h0 (.int .u64 x0)) (.int .u64 x1)) (.int .i64 x2)) (.int .i64 x3)
  refine bodyPost_ret (results_slot tmps w.heap.size _ b x0 x1 x2 x3 ht4 ht5 h4) rfl ⟨?_, ((((HWX.out.trans (h5.mono HWX.out.size)).setCell (Nat.le_refl _) _).setCell (Nat.le_refl _) _).setCell (Nat.le_refl _) _).setCell (Nat.le_refl _) _⟩
  rcases hc with ⟨hr, rfl, rfl, rfl, rfl, rfl⟩ | ⟨hr, rfl, rfl, rfl, rfl, rfl⟩
  ·rw [hr]; rfl
  ·rw [hr]; rfl
 by_cases hf : 50 <= (log : Int) /\ (log : Int) <= (n : Int) - 3
 ·have hd : decide (50 <= (log : Int) /\ (log : Int) <= (n : Int) - 3) = true := decide_eq_true hf
  rw [hd] at CF
  by_cases hpl : p < log
  ·have hpl' : ¬ (log : Int) <= (p : Int) := by omega
   have CT2 := Lib.hid (fun W => CT.out W (by omega) (by omega))
   have hzw : w.heap.size < X.heap.size := Nat.lt_of_lt_of_le hz0 HXB.out.size
   by_cases hte : t = slotB e s log p
   ·have HR : Hid (rdSlot t n = some (e, s, log, p)) := (HI.out _).2 ⟨⟨by omega, by omega, hpl, hte⟩, rfl⟩
    have hcmp2 : (!((slotB e s log p).toList == t.toList)) = false := by rw [Fr.str_same hte.symm]; rfl
    generalize slotB e s log p = tt at *
    clear hte hd HI CT
    go_wp2_with fail
    rw [HX.out]
    refine (CF.out _).mono ?_
    rintro r w5 ⟨rfl, rfl⟩
    go_wp2_with fail
    refine (CT2.out _).mono ?_
    rintro r w6 ⟨rfl, hb6⟩
    have HB6 := Lib.hid hb6; clear hb6
    have k0' := (HB6.out.cell (p := ⟨w4.heap.size, 0, none⟩) hzX).trans k0
    have k1' := (HB6.out.cell (p := ⟨w4.heap.size, 1, none⟩) hzX).trans k1
    have k2' := (HB6.out.cell (p := ⟨w4.heap.size, 2, none⟩) hzX).trans k2
    have k3' := (HB6.out.cell (p := ⟨w4.heap.size, 3, none⟩) hzX).trans k3
    have r0' := (HB6.out.cell (p := ⟨w.heap.size, 0, none⟩) hzw).trans r0
    have r1' := (HB6.out.cell (p := ⟨w.heap.size, 1, none⟩) hzw).trans r1
    have r2' := (HB6.out.cell (p := ⟨w.heap.size, 2, none⟩) hzw).trans r2
    have r3' := (HB6.out.cell (p := ⟨w.heap.size, 3, none⟩) hzw).trans r3
    have q0' := (HB6.out.frozen (p := ⟨w.heap.size, 0, none⟩) hzw).trans q0
    have q1' := (HB6.out.frozen (p := ⟨w.heap.size, 1, none⟩) hzw).trans q1
    have q2' := (HB6.out.frozen (p := ⟨w.heap.size, 2, none⟩) hzw).trans q2
    have q3' := (HB6.out.frozen (p := ⟨w.heap.size, 3, none⟩) hzw).trans q3
    clear k0 k1 k2 k3 r0 r1 r2 r3 q0 q1 q2 q3
    go_wp2
    exact fin.out _ _ _ _ _ _ _ HB6.out rfl rfl (.inr ⟨HR.out, rfl, rfl, rfl, rfl, rfl⟩)
   ·have HR : Hid (rdSlot t n = none) := by
     cases h : rdSlot t n with
     | none => rfl
     | some x => exact absurd ((HI.out _).1 h).1.2.2.2 hte
    have hcmp2 : (!((slotB e s log p).toList == t.toList)) = true := by rw [Fr.str_diff (fun h => hte h.symm)]; rfl
    generalize slotB e s log p = tt at *
    clear hte hd HI CT
    go_wp2_with fail
    rw [HX.out]
    refine (CF.out _).mono ?_
    rintro r w5 ⟨rfl, rfl⟩
    go_wp2_with fail
    refine (CT2.out _).mono ?_
    rintro r w6 ⟨rfl, hb6⟩
    have HB6 := Lib.hid hb6; clear hb6
    have r0' := (HB6.out.cell (p := ⟨w.heap.size, 0, none⟩) hzw).trans r0
    have r1' := (HB6.out.cell (p := ⟨w.heap.size, 1, none⟩) hzw).trans r1
    have r2' := (HB6.out.cell (p := ⟨w.heap.size, 2, none⟩) hzw).trans r2
    have r3' := (HB6.out.cell (p := ⟨w.heap.size, 3, none⟩) hzw).trans r3
    have q0' := (HB6.out.frozen (p := ⟨w.heap.size, 0, none⟩) hzw).trans q0
    have q1' := (HB6.out.frozen (p := ⟨w.heap.size, 1, none⟩) hzw).trans q1
    have q2' := (HB6.out.frozen (p := ⟨w.heap.size, 2, none⟩) hzw).trans q2
    have q3' := (HB6.out.frozen (p := ⟨w.heap.size, 3, none⟩) hzw).trans q3
    clear k0 k1 k2 k3 r0 r1 r2 r3 q0 q1 q2 q3
    go_wp2
    exact fin.out _ _ _ _ _ _ _ HB6.out rfl rfl (.inl ⟨HR.out, rfl, rfl, rfl, rfl, rfl⟩)
  ·have HR : Hid (rdSlot t n = none) := by
    cases h : rdSlot t n with
    | none => rfl
    | some x => exact absurd ((HI.out _).1 h).1.2.2.1 hpl
   have hpl' : (log : Int) <= (p : Int) := by omega
   clear hd HI CT
   go_wp2_with fail
   rw [HX.out]
   refine (CF.out _).mono ?_
   rintro r w5 ⟨rfl, rfl⟩
   go_wp2
   exact fin.out _ _ _ _ _ _ _ (Below.refl _ _) rfl rfl (.inl ⟨HR.out, rfl, rfl, rfl, rfl, rfl⟩)
 ·have HR : Hid (rdSlot t n = none) := by
   cases h : rdSlot t n with
   | none => rfl
   | some x => exact absurd ((HI.out _).1 h).1 (fun h2 => hf (by omega))
  have hd : decide (50 <= (log : Int) /\ (log : Int) <= (n : Int) - 3) = false := decide_eq_false hf
  rw [hd] at CF
  clear hd HI CT hf
  go_wp2_with fail
  rw [HX.out]
  refine (CF.out _).mono ?_
  rintro r w5 ⟨rfl, rfl⟩
  go_wp2
  exact fin.out _ _ _ _ _ _ _ (Below.refl _ _) rfl rfl (.inl ⟨HR.out, rfl, rfl, rfl, rfl, rfl⟩)
end Go.Proofs.YthambopnmhkeeaaGreat
/- What Checkpoint answers and leaves behind, for every journal over every device. -/
set_option maxRecDepth 100000
namespace Go.Proofs.YthambopnmhkeeaaGreat
open Go.RowKit
open Fr (SlW WritesAt)
section
variable {t : TypeId} {S S1 T : Nat -> Prop} {w w1 w2 w' : World} {a p : Nat} {J J1 J2 : JS} {D D1 D2 : DevS} {v : Value} {L : List (Int × ByteArray)}
def JLeaves (t : TypeId) (S : Nat -> Prop) (w w' : World) (a p : Nat) (D' : DevS) (J' : JS) : Prop :=
 ∃ S' : Nat -> Prop, (∀ k, S' k -> S k \/ w.heap.size <= k) /\ Stands S' w' p D' /\ Jr t w' a p J' /\ Only (fun k => S k \/ k = a) w w'
theorem JLeaves.of (h : Leaves S w w' p D1) (hj : Jr t w a p J) (ha : ¬ S a) : JLeaves t S w w' a p D1 J := by
 obtain ⟨S', hS', hs, ho⟩ := h
 exact ⟨S', hS', hs, hj.only ho ha, ho.mono (fun _ _ h => .inl h)⟩
theorem JLeaves.refl (hd : Stands S w p D) (hj : Jr t w a p J) : JLeaves t S w w a p D J := ⟨S, fun _ => .inl, hd, hj, Only.refl _ _⟩
theorem JLeaves.next (hS1 : ∀ k, S1 k -> S k \/ w.heap.size <= k) (ho : Only (fun k => S k \/ k = a) w w1) (h : JLeaves t S1 w1 w2 a p D2 J2) : JLeaves t S w w2 a p D2 J2 := by
 obtain ⟨S2, hS2, hs, hj, ho2⟩ := h
 refine ⟨S2, fun k hk => ?_, hs, hj, ho.trans ho2 (fun i hi h1 => ?_)⟩
 ·rcases hS2 k hk with h | h
  ·exact hS1 k h
  ·exact .inr (Nat.le_trans ho.size h)
 ·rcases h1 with h1 | h1
  ·rcases hS1 i h1 with h | h
   ·exact .inl h
   ·omega
  ·exact .inr h1
theorem JLeaves.below (h : JLeaves t S w w1 a p D1 J1) (hb : Below w1.heap.size w1 w2) : JLeaves t S w w2 a p D1 J1 := by
 obtain ⟨S2, hS2, hs, hj, ho2⟩ := h
 exact ⟨S2, hS2, hs.below hb, hj.below hb, ho2.trans (Only.of_below (fun _ => False) hb (Nat.le_refl _)) (fun _ _ f => f.elim)⟩
theorem JLeaves.from (hb : Below w.heap.size w w1) (h : JLeaves t S w1 w2 a p D2 J2) : JLeaves t S w w2 a p D2 J2 :=
 JLeaves.next (fun _ h => .inl h) (Only.of_below _ hb (Nat.le_refl _)) h
theorem one_write (w : World) (i : Int) (s : ByteArray) : SlW (w.alloc (.cells #[.int .i64 i, .string s] 63)) (.slice (some ⟨w.heap.size, 0, none⟩) 1 1) [(i, s)] := by
 refine ⟨_, 1, rfl, Nat.le_refl _, .inr ⟨w.heap.size, 0, rfl, by simp, fun j hj => ?_⟩⟩
 obtain rfl : j = 0 := by simpa using hj
 exact ⟨by rw [cell_at (heap_alloc_new ..)]; rfl, by rw [cell_at (heap_alloc_new ..)]; rfl⟩
theorem settle_one (i : Int) (s : ByteArray) (hj : Jr 104 w a p J) (hd : Stands S w p D) (ha : ¬ S a) (hp : D.pend.length <= 900000) :
  Calls Tryz.prog 122 #[.pointer (some ⟨a, 0, none⟩), .slice (some ⟨w.heap.size, 0, none⟩) 1 1] (w.alloc (.cells #[.int .i64 i, .string s] 63)) fun e w' => e = .returned (.int .i64 (D.stl [(i, s)]).1) /\ Leaves S w w' p (D.stl [(i, s)]).2 := by
 have hb : Below w.heap.size w (w.alloc (.cells #[.int .i64 i, .string s] 63)) := (Below.refl _ _).alloc (Nat.le_refl _) _
 refine (jsettle_any (hj.below hb) (hd.below hb) ha (by simp) hp (one_write w i s) ?_).mono fun e w' ⟨he, hl⟩ => ⟨he, Leaves.from hb hl⟩
 intro g off n c hv hg
 cases hv
 have := hd.lt _ hg
 omega
abbrev ckW (w : World) (a E nx lg q sd : Nat) : World := ((((((w.setCell ⟨a, 1, none⟩ (.int .u64 (E : Int))).setCell ⟨a, 2, none⟩ (.int .u64 (nx : Int))).setCell ⟨a, 3, none⟩ (.int .i64 (lg : Int))).setCell ⟨a, 4, none⟩ (.int .i64 (q : Int))).setCell ⟨a, 5, none⟩ (.int .i64 (sd : Int))).setCell ⟨a, 7, none⟩ (.int .i64 0)).drew
theorem ck_only (w : World) (a E nx lg q sd : Nat) : Only (fun k => k = a) w (ckW w a E nx lg q sd) :=
 (((((((Only.refl (fun k => k = a) w).setCell (p := ⟨a, 1, none⟩) (fun _ => rfl) _).setCell (p := ⟨a, 2, none⟩) (fun _ => rfl) _).setCell (p := ⟨a, 3, none⟩) (fun _ => rfl) _).setCell (p := ⟨a, 4, none⟩) (fun _ => rfl) _).setCell (p := ⟨a, 5, none⟩) (fun _ => rfl) _).setCell (p := ⟨a, 7, none⟩) (fun _ => rfl) _).drew
theorem Jr.drew (h : Jr t w a p J) : Jr t w.drew a p J := by unfold Jr at *; exact h
theorem Jr.ck (h : Jr t w a p J) (E q sd : Nat) : Jr t (ckW w a E J.next J.log q sd) a p ⟨E, J.next, J.log, q, sd, J.next, 0⟩ := by
 have h1 := h.put (J' := { J with e := E }) (i := 1) (v := .int .u64 (E : Int)) (by simp [JCells])
 have h2 := h1.put (J' := { J with e := E, s := J.next }) (i := 2) (v := .int .u64 (J.next : Int)) (by simp [JCells])
 have h3 := h2.put (J' := { J with e := E, s := J.next }) (i := 3) (v := .int .i64 (J.log : Int)) (by simp [JCells])
 have h4 := h3.put (J' := { J with e := E, s := J.next, p := q }) (i := 4) (v := .int .i64 (q : Int)) (by simp [JCells])
 have h5 := h4.put (J' := { J with e := E, s := J.next, p := q, side := sd }) (i := 5) (v := .int .i64 (sd : Int)) (by simp [JCells])
 exact (h5.put (J' := ⟨E, J.next, J.log, q, sd, J.next, 0⟩) (i := 7) (v := .int .i64 0) (by simp [JCells])).drew
abbrev CkS (a g sd E nx lg q : Nat) (W : World) : Prop := W.cell? ⟨a, 5, none⟩ = some (.int .i64 (sd : Int)) /\ W.cell? ⟨g, 0, none⟩ = some (.int .u64 (E : Int)) /\ W.cell? ⟨g, 1, none⟩ = some (.int .u64 (nx : Int)) /\ W.cell? ⟨g, 2, none⟩ = some (.int .i64 (lg : Int)) /\ W.cell? ⟨g, 3, none⟩ = some (.int .i64 (q : Int))
set_option maxHeartbeats 2000000 in
theorem ckp_any (hj : Jr 104 w a p J) (hd : Stands S w p D) (ha : ¬ S a) (ok : J.Ok D.disk.length) (hp : D.pend.length <= 800000) :
  Calls Tryz.prog 126 #[.pointer (some ⟨a, 0, none⟩)] w fun e w' => e = .returned (.int .i64 (J.ckp D).1) /\ JLeaves 104 S w w' a p (J.ckp D).2.1 (J.ckp D).2.2 := by
 have hn := hd.ok.few
 have CB := Lib.hid (behind_any 0 hj ok hn (by have := ok.fu; omega))
 have HJ := Lib.hid hj; clear hj
 have HD := Lib.hid hd; clear hd
 have HA := Lib.hid ha; clear ha
 have HOK := Lib.hid ok; clear ok
 go_enter Tryz.func126, Tryz.ntmps126
 go_wp2_with fail
 refine CB.out.mono ?_
 rintro e w1 ⟨rfl, hb1⟩
 have HB1 := Lib.hid hb1; clear hb1
 go_wp2_with fail
 refine (jnoughts_all _).mono ?_
 rintro e w2 ⟨rfl, hb2⟩
 have HB2 := Lib.hid (HB1.out.trans (hb2.mono HB1.out.size)); clear hb2 HB1
 go_wp2_with fail
 obtain ⟨R1, hR1⟩ : ∃ R, D.stl [(((J.pos 0 : Nat) : Int), noughts)] = R := ⟨_, rfl⟩
 have C1 := Lib.hid (settle_one ((J.pos 0 : Nat) : Int) noughts (HJ.out.below HB2.out) (HD.out.below HB2.out) HA.out (by omega))
 rw [hR1] at C1
 have HL1 : Hid (R1.2.pend.length <= 850000 /\ R1.2.disk.length = D.disk.length) := by
  rw [<- hR1]; have := D.stl_len [(((J.pos 0 : Nat) : Int), noughts)]; exact ⟨by simp at this; omega, D.stl_disk _⟩
 have HCk : Hid (J.ckp D = if R1.1 ≠ 0 then (R1.1, R1.2, J) else
   if (R1.2.stl [(((1 - J.side : Nat) : Int), slotB ((J.e + 1) % 18446744073709551616) J.next J.log (J.pos 0 - 2))]).1 ≠ 0 then ((R1.2.stl [(((1 - J.side : Nat) : Int), slotB ((J.e + 1) % 18446744073709551616) J.next J.log (J.pos 0 - 2))]).1, (R1.2.stl [(((1 - J.side : Nat) : Int), slotB ((J.e + 1) % 18446744073709551616) J.next J.log (J.pos 0 - 2))]).2, J)
   else (0, (R1.2.stl [(((1 - J.side : Nat) : Int), slotB ((J.e + 1) % 18446744073709551616) J.next J.log (J.pos 0 - 2))]).2, J.next')) := by
  show J.ckp D = _
  rw [<- hR1]; rfl
 clear hR1 CB
 obtain ⟨er1, D1⟩ := R1
 simp only at C1 HL1 HCk
 refine C1.out.mono ?_
 rintro e w3 ⟨rfl, hv3⟩
 have HV3 := Lib.hid (Leaves.from HB2.out hv3); clear hv3 C1 HB2
 by_cases he1 : er1 = 0
 ·have he1' : (er1 != 0) = false := by simp [he1]
  rw [if_neg (by simpa using he1)] at HCk
  obtain ⟨S3, hS3, hs3, ho3⟩ := HV3.out
  have hna : ¬ S3 a := fun h => by rcases hS3 a h with h | h; exact HA.out h; have := HJ.out.lt; omega
  have hj3 := HJ.out.only ho3 HA.out
  have hok3 : J.Ok D1.disk.length := by rw [HL1.out.2]; exact HOK.out
  have c1 := hj3.c1; have c3 := hj3.c3; have c5 := hj3.c5; have c6 := hj3.c6
  have CB3 : Hid (∀ W, Below w3.heap.size w3 W -> Calls Tryz.prog 175 #[.pointer (some ⟨a, 0, none⟩), .int .i64 0] W fun e w' => e = .returned (.int .i64 (J.pos 0)) /\ w' = W.drew) := fun W hW =>
   behind_drew 0 (hj3.below hW) hok3 (by rw [HL1.out.2]; exact hn) (by have := HOK.out.fu; omega)
  have hal := hj3.lt
  have HS3 := Lib.hid hS3; have HSt3 := Lib.hid hs3; have HO3 := Lib.hid ho3; have HJ3 := Lib.hid hj3; have HNA := Lib.hid hna
  clear hS3 hs3 ho3 hj3 hna hok3
  have hp2 := HOK.out.pos_lt 0
  have hll := HOK.out.l1
  obtain ⟨ps, hps⟩ : ∃ x, J.pos 0 = x := ⟨_, rfl⟩
  rw [hps] at CB3 HCk hp2
  have HPS := Lib.hid hps; clear hps
  obtain ⟨E, hE⟩ : ∃ x : Nat, (J.e + 1) % 18446744073709551616 = x := ⟨_, rfl⟩
  have wE : IntKind.u64.wrap ((J.e : Int) + 1) = (E : Int) := by rw [<- hE]; simp [IntKind.wrap, IntKind.bits, IntKind.signed]
  rw [hE] at HCk
  have HE := Lib.hid hE; clear hE
  obtain ⟨q, hq⟩ : ∃ q, ps = 2 + q := ⟨ps - 2, by omega⟩
  subst hq
  rw [Nat.add_sub_cancel_left] at HCk
  have wq : IntKind.i64.wrap (2 + (q : Int) - 2) = (q : Int) := by rw [show 2 + (q : Int) - 2 = (q : Int) by omega]; exact IntWalk.i64_in _ (by omega)
  go_wp2_with fail
  have hal' : w3.heap.size ≠ a := by omega
  go_region_held3 (fun W => W.cell? ⟨a, 1, none⟩ = some (.int .u64 J.e) /\ W.cell? ⟨a, 3, none⟩ = some (.int .i64 J.log) /\ W.cell? ⟨a, 6, none⟩ = some (.int .u64 J.next))
   (first | exact ⟨c1, c3, c6⟩ | go_keep)
   (first | (go_at_call 175; refine (CB3.out _ ?_).mono ?_; (first | exact (Below.refl _ _).drew | exact ((Below.refl _ _).drew).alloc (Nat.le_refl _) _); rintro e w' ⟨rfl, rfl⟩))
  all_goals
   obtain ⟨X, hX⟩ : ∃ X, (w3.alloc (.cells #[.int .u64 (E : Int), .int .u64 (J.next : Int), .int .i64 (J.log : Int), .int .i64 (q : Int)] 102)).drew.drew = X := ⟨_, rfl⟩
   rw [hX]
   have hXb : Below w3.heap.size w3 X := by rw [<- hX]; exact (((Below.refl _ _).alloc (Nat.le_refl _) _).drew).drew
   have hXh : X.heap[w3.heap.size]? = some (.cells #[.int .u64 (E : Int), .int .u64 (J.next : Int), .int .i64 (J.log : Int), .int .i64 (q : Int)] 102 (0, 0)) := by rw [<- hX]; exact heap_alloc_new ..
   have hXz : w3.heap.size < X.heap.size := (Array.getElem?_eq_some_iff.1 hXh).1
   clear hX
   have y0 : X.cell? ⟨w3.heap.size, 0, none⟩ = some (.int .u64 (E : Int)) := by rw [cell_at hXh]; rfl
   have y1 : X.cell? ⟨w3.heap.size, 1, none⟩ = some (.int .u64 (J.next : Int)) := by rw [cell_at hXh]; rfl
   have y2 : X.cell? ⟨w3.heap.size, 2, none⟩ = some (.int .i64 (J.log : Int)) := by rw [cell_at hXh]; rfl
   have y3 : X.cell? ⟨w3.heap.size, 3, none⟩ = some (.int .i64 (q : Int)) := by rw [cell_at hXh]; rfl
   have y5 : X.cell? ⟨a, 5, none⟩ = some (.int .i64 J.side) := (hXb.cell (p := ⟨a, 5, none⟩) hal).trans c5
   have hsi := HOK.out.si
   have hE64 : E < 18446744073709551616 := by rw [<- HE.out]; exact Nat.mod_lt _ (by omega)
   have CT : Hid (∀ W, Calls Tryz.prog 123 #[.agg #[.int .u64 (E : Int), .int .u64 (J.next : Int), .int .i64 (J.log : Int), .int .i64 (q : Int)]] W fun r w' => r = .returned (.string (slotB E J.next J.log q)) /\ Below W.heap.size W w') :=
    fun W => text_any E J.next J.log q W hE64 HOK.out.n64 (by omega) (by omega)
   have w1s : (1 : Int) - (J.side : Int) = ((1 - J.side : Nat) : Int) := by omega
   have w1s' : IntKind.i64.wrap ((1 : Int) - (J.side : Int)) = ((1 - J.side : Nat) : Int) := by rw [w1s]; exact IntWalk.i64_in _ (by omega)
   have HXh := Lib.hid hXh; have HXb := Lib.hid hXb
   clear hXh hXb c1 c3 c5 c6 wE wq w1s
   generalize slotB E J.next J.log q = tt at *
   obtain ⟨R2, hR2⟩ : ∃ R, D1.stl [(((1 - J.side : Nat) : Int), tt)] = R := ⟨_, rfl⟩
   rw [hR2] at HCk
   have CS : Hid (∀ W, Below X.heap.size X W -> Calls Tryz.prog 122 #[.pointer (some ⟨a, 0, none⟩), .slice (some ⟨W.heap.size, 0, none⟩) 1 1] (W.alloc (.cells #[.int .i64 ((1 - J.side : Nat) : Int), .string tt] 63)) fun e w' => e = .returned (.int .i64 R2.1) /\ Leaves S3 X w' p R2.2) := by
    intro W hW
    have hb := HXb.out.trans (hW.mono HXb.out.size)
    rw [<- hR2]
    exact (settle_one _ tt (HJ3.out.below hb) (HSt3.out.below hb) HNA.out (by have := HL1.out.1; omega)).mono fun e w' ⟨he, hl⟩ => ⟨he, Leaves.from hW hl⟩
   clear hR2
   have HCells : Hid (∀ W : World, W.heap[w3.heap.size]? = X.heap[w3.heap.size]? -> W.cell? ⟨a, 5, none⟩ = X.cell? ⟨a, 5, none⟩ -> CkS a w3.heap.size J.side E J.next J.log q W) := by
    intro W h1 h2
    have h := h1.trans HXh.out
    exact ⟨h2.trans y5, by rw [cell_at h]; rfl, by rw [cell_at h]; rfl, by rw [cell_at h]; rfl, by rw [cell_at h]; rfl⟩
   have hXa : a < X.heap.size := by omega
   have HKT : Hid (∀ W, Below X.heap.size X W -> CkS a w3.heap.size J.side E J.next J.log q W) := fun W hW => HCells.out W (hW.block _ hXz) (hW.cell (p := ⟨a, 5, none⟩) hXa)
   have HKA : Hid (∀ W o, Below X.heap.size X W -> CkS a w3.heap.size J.side E J.next J.log q (W.alloc o)) := fun W o hW => HKT.out (W.alloc o) (hW.alloc hW.size o)
   have HKL : Hid (∀ w' D', Leaves S3 X w' p D' -> CkS a w3.heap.size J.side E J.next J.log q w') := fun w' D' h => HCells.out w' (h.only.block _ hXz (fun hs => by have := HSt3.out.lt _ hs; omega)) (h.only.cell (p := ⟨a, 5, none⟩) hXa HNA.out)
   obtain ⟨er2, D2⟩ := R2
   simp only at CS HCk
   go_wp2_with fail
   go_region_held3 (fun W => W.cell? ⟨a, 5, none⟩ = some (.int .i64 J.side) /\ W.cell? ⟨w3.heap.size, 0, none⟩ = some (.int .u64 (E : Int)) /\ W.cell? ⟨w3.heap.size, 1, none⟩ = some (.int .u64 (J.next : Int)) /\ W.cell? ⟨w3.heap.size, 2, none⟩ = some (.int .i64 (J.log : Int)) /\ W.cell? ⟨w3.heap.size, 3, none⟩ = some (.int .i64 (q : Int)))
    (first | exact ⟨y5, y0, y1, y2, y3⟩ | exact HKT.out _ (by assumption) | exact HKA.out _ _ (by assumption) | exact HKL.out _ _ (by assumption))
    (first | (go_at_call 123; refine (CT.out _).mono ?_; rintro r w5 ⟨rfl, hb5'⟩; have hb5 := Fr.below_predrew hb5'; clear hb5')
           | (go_at_call 122; refine (CS.out _ hb5).mono ?_; rintro r w6 ⟨rfl, hv6⟩))
   rename_i hHeld
   obtain ⟨_, y0', y1', y2', y3'⟩ := hHeld
   have hl6 := Leaves.from HXb.out hv6
   have hj6 := HJ3.out.only hl6.only HNA.out
   obtain ⟨S6, hS6, hs6, ho6⟩ := hl6
   have hna6 : ¬ S6 a := fun h => by rcases hS6 a h with h | h; exact HNA.out h; omega
   clear hv6 hb5 y0 y1 y2 y3 y5
   by_cases he2 : er2 = 0
   ·have he2' : (er2 != 0) = false := by simp [he2]
    rw [if_neg (by simpa using he2)] at HCk
    have c1 := hj6.c1; have c2 := hj6.c2; have c3 := hj6.c3; have c4 := hj6.c4; have c5 := hj6.c5; have c7 := hj6.c7
    have f1 := hj6.f 1; have f2 := hj6.f 2; have f3 := hj6.f 3; have f4 := hj6.f 4; have f5 := hj6.f 5; have f7 := hj6.f 7
    have HJ6 := Lib.hid hj6; clear hj6
    have HS6 := Lib.hid hS6; have HSt6 := Lib.hid hs6; have HO6 := Lib.hid ho6; have HN6 := Lib.hid hna6
    clear hS6 hs6 ho6 hna6
    go_wp2_with fail
    go_region
    go_wp2
    go_ret
    have hE' : J.next' = ⟨E, J.next, J.log, q, 1 - J.side, J.next, 0⟩ := by unfold JS.next'; rw [HE.out, HPS.out, Nat.add_sub_cancel_left]
    have hO := ck_only w6 a E J.next J.log q (1 - J.side)
    have hJ := HJ6.out.ck E q (1 - J.side)
    rw [<- hE'] at hJ
    refine ⟨by rw [HCk.out]; rfl, ?_⟩
    rw [HCk.out]
    exact JLeaves.next HS3.out (HO3.out.mono (fun _ _ h => .inl h)) ⟨S6, HS6.out, HSt6.out.kept hO (fun k hk hka => HN6.out (hka ▸ hk)), hJ, (HO6.out.mono (T := fun k => S3 k \/ k = a) (fun _ _ h => .inl h)).trans hO (fun _ _ h => .inr h)⟩
   ·have he2' : (er2 != 0) = true := by simp [he2]
    rw [if_pos (by simpa using he2)] at HCk
    have HF : Hid (JLeaves 104 S w w6 a p D2 J) := JLeaves.next HS3.out (HO3.out.mono (fun _ _ h => .inl h)) (JLeaves.of ⟨S6, hS6, hs6, ho6⟩ HJ3.out HNA.out)
    clear hj6 hS6 hs6 ho6 hna6
    go_wp2
    go_ret
    exact ⟨by rw [HCk.out]; rfl, by rw [HCk.out]; exact HF.out⟩
 ·have he1' : (er1 != 0) = true := by simp [he1]
  rw [if_pos (by simpa using he1)] at HCk
  have HF : Hid (JLeaves 104 S w w3 a p D1 J) := JLeaves.of HV3.out HJ.out HA.out
  go_wp2
  go_ret
  exact ⟨by rw [HCk.out]; rfl, by rw [HCk.out]; exact HF.out⟩
end
end Go.Proofs.YthambopnmhkeeaaGreat
/- What add answers and leaves behind: a frame is laid behind those that are there. -/
set_option maxRecDepth 100000
namespace Go.Proofs.YthambopnmhkeeaaGreat
open Go.RowKit
open Fr (SlW SlS WritesAt StrsAt OwnW flatI two_cells two_one own_pushW step_append_own)
section
variable {S S1 T : Nat -> Prop} {w w1 w2 w' : World} {a p : Nat} {J J1 J2 : JS} {D D1 D2 : DevS} {v : Value} {top : ByteArray} {ds : List ByteArray}
def JS.dataK (J : JS) (ds : List ByteArray) (k : Nat) : List (Int × ByteArray) := (List.range k).map fun i => (((J.pos (i + 1) : Nat) : Int), ds.getD i ByteArray.empty)
theorem dataK_succ (J : JS) (ds : List ByteArray) (k : Nat) : J.dataK ds (k + 1) = J.dataK ds k ++ [(((J.pos (k + 1) : Nat) : Int), ds.getD k ByteArray.empty)] := by
 unfold JS.dataK; rw [List.range_succ, List.map_append]; rfl
theorem dataK_len (J : JS) (ds : List ByteArray) (k : Nat) : (J.dataK ds k).length = k := by simp [JS.dataK]
theorem dataW_eq (J : JS) (ds : List ByteArray) : J.dataW ds = J.dataK ds ds.length ++ [(((J.pos (ds.length + 1) : Nat) : Int), noughts)] := rfl
set_option maxHeartbeats 2000000 in
theorem add_any (b off c : Nat) (hj : Jr 104 w a p J) (hd : Stands S w p D) (ha : ¬ S a) (ok : J.Ok D.disk.length) (hp : D.pend.length <= 800000) (hl : ds.length <= 48) (hf : J.full + ds.length + 1 <= J.log)
  (hb : b < w.heap.size) (hc : StrsAt w b off (top :: ds)) (hsb : ¬ S b) :
  Calls Tryz.prog 131 #[.pointer (some ⟨a, 0, none⟩), .slice (some ⟨b, off, none⟩) (ds.length + 1) c] w fun e w' => e = .returned (.int .i64 (J.addF D top ds).1) /\ JLeaves 104 S w w' a p (J.addF D top ds).2.1 (J.addF D top ds).2.2 := by
 obtain ⟨i0, hi, hz0, hz1, hz2⟩ := info_parts Tryz.infoW
 have HZ2 := Lib.hid hz2; clear hz2
 have hnd := hd.ok.few
 have hll := ok.l1
 have hc0 : w.cell? ⟨b, off, none⟩ = some (.string top) := hc 0 (by simp)
 have HC : Hid (∀ k (h : k < ds.length), w.cell? ⟨b, off + (k + 1), none⟩ = some (.string (ds.getD k ByteArray.empty))) := by
  intro k hk
  have := hc (k + 1) (by simpa using hk)
  rw [this]; simp [hk]
 clear hc
 have HJ := Lib.hid hj; clear hj
 have HD := Lib.hid hd; clear hd
 have HA := Lib.hid ha; clear ha
 have HOK := Lib.hid ok; clear ok
 have HSB := Lib.hid hsb; clear hsb
 have CB : Hid (∀ W i, J.full + i <= J.log -> Below w.heap.size w W -> Calls Tryz.prog 175 #[.pointer (some ⟨a, 0, none⟩), .int .i64 ((i : Nat) : Int)] W fun e w' => e = .returned (.int .i64 (J.pos i)) /\ w' = W.drew) :=
  fun W i h hW => behind_drew i (HJ.out.below hW) HOK.out hnd h
 obtain ⟨n, hn⟩ : ∃ n, ds.length = n := ⟨_, rfl⟩
 rw [hn] at hl hf HC ⊢
 have HN := Lib.hid hn; clear hn
 go_enter Tryz.func131, Tryz.ntmps131
 go_wp2_with fail
 go_loopw [5, 6] (fun wv i wr => ∃ k : Nat, k <= n /\ i = .int .i64 ((k + 1 : Nat) : Int) /\ Hid (OwnW w.heap.size wr wv (J.dataK ds k)) /\ Hid (Below w.heap.size w wr)) (fun _ i _ => n + 1 - (intOf i).toNat)
 case atStart => exact ⟨0, Nat.zero_le _, rfl, OwnW.nil _ _, Below.refl _ _⟩
 case round =>
  obtain ⟨k, hk, rfl, HO, HB⟩ := hrel
  have hbr := HB.out.size
  by_cases hlt : k < n
  ·have c1r := (HB.out.cell (p := ⟨b, off + (k + 1), none⟩) hb).trans (HC.out k hlt)
   have hlen : (J.dataK ds k).length <= 48 := by rw [dataK_len]; omega
   have HSN := Lib.hid (dataK_succ J ds k)
   have CB1 : Hid (∀ W, Below w.heap.size w W -> Calls Tryz.prog 175 #[.pointer (some ⟨a, 0, none⟩), .int .i64 ((k + 1 : Nat) : Int)] W fun e w' => e = .returned (.int .i64 (J.pos (k + 1))) /\ w' = W.drew) := fun W hW => CB.out W (k + 1) (by omega) hW
   obtain ⟨M, hM⟩ : ∃ M, J.dataK ds k = M := ⟨_, rfl⟩
   rw [hM] at HO HSN hlen
   clear hM
   generalize ds.getD k ByteArray.empty = pt at *
   generalize J.pos (k + 1) = pi at *
   obtain ⟨ao2, c2, hv, _⟩ := HO.out.sl
   subst hv
   have i1 : (k : Int) + 1 < (n : Int) + 1 := by omega
   have i0' : (0 : Int) <= (k : Int) + 1 := by omega
   go_wp2_with fail
   go_region_law (first
    | (refine step_append_own rfl (.tmp 15) (.tmp 24) 49 rfl w.heap.size 63 i0 (.agg #[.int .i64 0, .string ⟨#[]⟩]) 2 24 Tryz.underlying49 hi hz0 hz1 HZ2.out rfl (by omega) (.slice ao2 M.length c2) M.length (flatI M) (by kernel_rfl) ?own ⟨wr.heap.size, 0, none⟩ 1 1 [.int .i64 (pi : Int), .string pt] (by kernel_rfl) rfl (two_cells rfl) two_one (by unfold maxLen; omega) (by omega) ?base ?_
       case own => exact World.ownsRow.alloc (w := wr) HO.out _
       case base => simp; omega
       intro v1 w3 hown hgrow
       have HO3 := Lib.hid (own_pushW hown)
       have HB3 : Hid (Below w.heap.size w w3) := (((HB.out.drew).drew).alloc hbr _).grown hgrow (by simp; omega) (fun q hq => (HO.out.lt q hq).1)
       clear hown hgrow)
    | (go_simp; go_at_call 175; refine (CB1.out _ ?_).mono ?_; exact HB.out.drew; rintro e w1 ⟨rfl, rfl⟩))
   all_goals
    go_wp2
    go_roundw
    case rel => exact ⟨k + 1, by omega, by go_num, by show OwnW _ _ _ _; rw [HSN.out]; exact HO3.out, HB3⟩
    case measure => simp [intOf]; omega
  ·have hkn : k = n := by omega
   subst hkn
   have i1 : ¬ (k : Int) + 1 < (k : Int) + 1 := by omega
   have CB1 : Hid (∀ W, Below w.heap.size w W -> Calls Tryz.prog 175 #[.pointer (some ⟨a, 0, none⟩), .int .i64 ((k : Int) + 1)] W fun e w' => e = .returned (.int .i64 (J.pos (k + 1))) /\ w' = W.drew) := fun W hW => CB.out W (k + 1) (by omega) hW
   have CB0 : Hid (∀ W, Below w.heap.size w W -> Calls Tryz.prog 175 #[.pointer (some ⟨a, 0, none⟩), .int .i64 0] W fun e w' => e = .returned (.int .i64 (J.pos 0)) /\ w' = W.drew) := fun W hW => CB.out W 0 (by omega) hW
   have hlen : (J.dataK ds k).length <= 48 := by rw [dataK_len]; omega
   have HDW : Hid (J.dataW ds = J.dataK ds k ++ [(((J.pos (k + 1) : Nat) : Int), noughts)]) := by show _ = _; rw [dataW_eq, HN.out]
   obtain ⟨ao2, c2, hv, _⟩ := HO.out.sl
   subst hv
   obtain ⟨M, hM⟩ : ∃ M, J.dataK ds k = M := ⟨_, rfl⟩
   rw [hM] at HO HDW hlen ⊢
   clear hM
   obtain ⟨pn, hpn⟩ : ∃ x, J.pos (k + 1) = x := ⟨_, rfl⟩
   rw [hpn] at HDW CB1
   clear hpn
   obtain ⟨NN, hNN⟩ : ∃ x, noughts = x := ⟨_, rfl⟩
   have CN : Hid (∀ W, Calls Tryz.prog 121 #[.int .i64 256] W fun e w' => e = .returned (.string NN) /\ Below W.heap.size W w') := fun W => by rw [<- hNN]; exact jnoughts_all W
   rw [hNN] at HDW
   clear hNN
   go_wp2_with fail
   refine (CB1.out _ HB.out).mono ?_
   rintro e w1 ⟨rfl, rfl⟩
   go_wp2_with fail
   refine (CN.out _).mono ?_
   rintro e w2 ⟨rfl, hb2⟩
   have HB2 : Hid (Below wr.heap.size wr w2) := Fr.below_predrew hb2
   clear hb2
   have hbr2 := HB2.out.size
   go_wp2_with (at_builtin; go_loud (refine wpList_append_own _ rfl _ _ 49 rfl w.heap.size 63 i0 _ 2 24 Tryz.underlying49 hi hz0 hz1 HZ2.out rfl (by decide) _ _ _ rfl ((HO.out.below HB2.out).alloc _) _ 1 1 [.int .i64 (pn : Int), .string NN] rfl rfl (two_cells rfl) two_one ?c3 ?c4 ?c5 ?_))
   case c3 => unfold maxLen; omega
   case c4 => omega
   case c5 => simp; omega
   intro v1 w3 hown hgrow _
   have hO3 := own_pushW hown
   have HB3 : Hid (Below w.heap.size w w3) := ((HB.out.trans (HB2.out.mono hbr)).alloc (by omega) _).grown hgrow (by simp; omega) (fun q hq => (HO.out.lt q hq).1)
   rw [<- HDW.out] at hO3
   have HO3 := Lib.hid hO3
   clear hown hgrow hO3 HO HB2 HB CB1 CN
   have hSO : Outs S v1 := by
    intro g off' n' c' hv hg
    have h1 := (HO3.out.lt g (by rw [hv]; rfl)).1
    have h2 := HD.out.lt g hg
    omega
   have CS := Lib.hid (jsettle_any (L := J.dataW ds) (HJ.out.below HB3.out) (HD.out.below HB3.out) HA.out (by rw [HDW.out]; simp; omega) (by omega) HO3.out.sl hSO)
   have HLd : Hid ((D.stl (J.dataW ds)).2.pend.length <= 850000 /\ (D.stl (J.dataW ds)).2.disk.length = D.disk.length) := by
    have := D.stl_len (J.dataW ds)
    refine ⟨?_, D.stl_disk _⟩
    rw [HDW.out, List.length_append, List.length_singleton] at this
    rw [HDW.out]; omega
   have HAd : Hid (J.addF D top ds = if (D.stl (J.dataW ds)).1 ≠ 0 then ((D.stl (J.dataW ds)).1, (D.stl (J.dataW ds)).2, J) else
     if ((D.stl (J.dataW ds)).2.stl [(((J.pos 0 : Nat) : Int), top)]).1 ≠ 0 then (((D.stl (J.dataW ds)).2.stl [(((J.pos 0 : Nat) : Int), top)]).1, ((D.stl (J.dataW ds)).2.stl [(((J.pos 0 : Nat) : Int), top)]).2, J) else
     (0, ((D.stl (J.dataW ds)).2.stl [(((J.pos 0 : Nat) : Int), top)]).2, J.grow (k + 1))) := by
    show J.addF D top ds = _
    unfold JS.addF
    rw [HN.out]
   generalize D.stl (J.dataW ds) = R1 at *
   obtain ⟨er1, D1⟩ := R1
   simp only at CS HLd HAd
   obtain ⟨ao3, c3, hv3, _⟩ := HO3.out.sl
   subst hv3
   clear HDW HO3 hSO
   go_wp2_with fail
   refine CS.out.mono ?_
   rintro e w4 ⟨rfl, hv4⟩
   have HV4 := Lib.hid (Leaves.from HB3.out hv4); clear hv4 CS
   by_cases he1 : er1 = 0
   ·have he1' : (er1 != 0) = false := by simp [he1]
    rw [if_neg (by simpa using he1)] at HAd
    obtain ⟨S4, hS4, hs4, ho4⟩ := HV4.out
    have hna : ¬ S4 a := fun h => by rcases hS4 a h with h | h; exact HA.out h; have := HJ.out.lt; omega
    have hj4 := HJ.out.only ho4 HA.out
    have hok4 : J.Ok D1.disk.length := by rw [HLd.out.2]; exact HOK.out
    have hc4 : w4.cell? ⟨b, off, none⟩ = some (.string top) := (ho4.cell (p := ⟨b, off, none⟩) hb HSB.out).trans hc0
    have CB4 : Hid (∀ W, Below w4.heap.size w4 W -> Calls Tryz.prog 175 #[.pointer (some ⟨a, 0, none⟩), .int .i64 0] W fun e w' => e = .returned (.int .i64 (J.pos 0)) /\ w' = W.drew) := fun W hW =>
     behind_drew 0 (hj4.below hW) hok4 (by rw [HLd.out.2]; exact hnd) (by omega)
    obtain ⟨R2, hR2⟩ : ∃ R, D1.stl [(((J.pos 0 : Nat) : Int), top)] = R := ⟨_, rfl⟩
    rw [hR2] at HAd
    have CS4 : Hid (∀ W, Below w4.heap.size w4 W -> Calls Tryz.prog 122 #[.pointer (some ⟨a, 0, none⟩), .slice (some ⟨W.heap.size, 0, none⟩) 1 1] (W.alloc (.cells #[.int .i64 ((J.pos 0 : Nat) : Int), .string top] 63)) fun e w' => e = .returned (.int .i64 R2.1) /\ Leaves S4 w4 w' p R2.2) := by
     intro W hW
     rw [<- hR2]
     exact (settle_one _ top (hj4.below hW) (hs4.below hW) hna (by have := HLd.out.1; omega)).mono fun e w' ⟨he, hl⟩ => ⟨he, Leaves.from hW hl⟩
    have HJ4 := Lib.hid hj4; have HS4 := Lib.hid hS4; have HSt4 := Lib.hid hs4; have HO4 := Lib.hid ho4; have HN4 := Lib.hid hna
    have HOK4 := Lib.hid hok4
    clear hj4 hS4 hs4 ho4 hna hok4
    have HD2 : Hid (R2.2.disk.length = D.disk.length) := by rw [<- hR2]; show _ = _; rw [D1.stl_disk]; exact HLd.out.2
    clear hR2 hc0 CB CB0
    obtain ⟨p0, hp0⟩ : ∃ x, J.pos 0 = x := ⟨_, rfl⟩
    rw [hp0] at CB4 CS4
    clear hp0
    obtain ⟨er2, D2⟩ := R2
    simp only at HAd CS4 HD2
    have i2 : (0 : Int) < (k : Int) + 1 := by omega
    have hb4 : b < w4.heap.size := Nat.lt_of_lt_of_le hb HO4.out.size
    have HKB : Hid (∀ w' D', Leaves S4 w4 w' p D' -> w'.cell? ⟨b, off, none⟩ = some (.string top)) := fun w' D' h => (h.only.cell (p := ⟨b, off, none⟩) hb4 (fun hs => by rcases HS4.out b hs with h | h; exact HSB.out h; omega)).trans hc4
    go_wp2_with fail
    go_region_held3 (fun W => W.cell? ⟨b, off, none⟩ = some (.string top))
     (first | exact hc4 | exact HKB.out _ _ (by assumption) | go_keep)
     (first | (go_at_call 175; refine (CB4.out _ ?_).mono ?_; exact (Below.refl _ _).drew; rintro e w' ⟨rfl, rfl⟩)
            | (go_at_call 122; refine (CS4.out w4.drew.drew ?_).mono ?_; exact ((Below.refl _ _).drew).drew; rintro r w6 ⟨rfl, hv6⟩))
    have hj6 := HJ4.out.only hv6.only HN4.out
    by_cases he2 : er2 = 0
    ·have he2' : (er2 != 0) = false := by simp [he2]
     rw [if_neg (by simpa using he2)] at HAd
     have CG := Lib.hid (grow_any (k + 1) hj6 (n := D2.disk.length) (by rw [HD2.out]; exact HOK.out) (by rw [HD2.out]; exact hnd) (by omega))
     obtain ⟨S6, hS6, hs6, ho6⟩ := hv6
     have hna6 : ¬ S6 a := fun h => by rcases hS6 a h with h | h; exact HN4.out h; have := HJ4.out.lt; omega
     have HS6 := Lib.hid hS6; have HSt6 := Lib.hid hs6; have HO6 := Lib.hid ho6; have HN6 := Lib.hid hna6
     clear hS6 hs6 ho6 hna6 hj6
     go_wp2_with fail
     refine CG.out.mono ?_
     rintro e w7 ⟨rfl, hj7, ho7, hz7⟩
     have HJ7 := Lib.hid hj7; have HO7 := Lib.hid ho7
     clear hj7 ho7 hz7 CG
     go_wp2
     go_ret
     refine ⟨by rw [HAd.out]; rfl, ?_⟩
     rw [HAd.out]
     exact JLeaves.next HS4.out (HO4.out.mono (fun _ _ h => .inl h)) ⟨S6, HS6.out, HSt6.out.kept HO7.out (fun k hk hka => HN6.out (hka ▸ hk)), HJ7.out, (HO6.out.mono (T := fun k => S4 k \/ k = a) (fun _ _ h => .inl h)).trans HO7.out (fun _ _ h => .inr h)⟩
    ·have he2' : (er2 != 0) = true := by simp [he2]
     rw [if_pos (by simpa using he2)] at HAd
     have HF : Hid (JLeaves 104 S w w6 a p D2 J) := JLeaves.next HS4.out (HO4.out.mono (fun _ _ h => .inl h)) (JLeaves.of hv6 HJ4.out HN4.out)
     clear hj6 hv6
     go_wp2
     go_ret
     exact ⟨by rw [HAd.out]; rfl, by rw [HAd.out]; exact HF.out⟩
   ·have he1' : (er1 != 0) = true := by simp [he1]
    rw [if_pos (by simpa using he1)] at HAd
    have HF : Hid (JLeaves 104 S w w4 a p D1 J) := JLeaves.of HV4.out HJ.out HA.out
    go_wp2
    go_ret
    exact ⟨by rw [HAd.out]; rfl, by rw [HAd.out]; exact HF.out⟩
end
end Go.Proofs.YthambopnmhkeeaaGreat
/- What Commit answers and leaves behind, for every journal over every device. -/
set_option maxRecDepth 100000
namespace Go.Proofs.YthambopnmhkeeaaGreat
open Go.RowKit
open Fr (SlW SlS WritesAt StrsAt OwnS)
section
variable {S S1 T : Nat -> Prop} {w w1 w2 w' : World} {a p : Nat} {J J1 J2 : JS} {D D1 D2 : DevS} {v : Value} {L : List (Int × ByteArray)}
theorem Outs.or_ne (h : Outs S v) (ha : ∀ g off n c, v = .slice (some ⟨g, off, none⟩) n c -> g ≠ a) : Outs (fun k => S k \/ k = a) v := fun g off n c hv hs => by
 rcases hs with hs | hs
 ·exact h g off n c hv hs
 ·exact ha g off n c hv hs
theorem Outs.grown {w : World} (h : Outs S v) (hl : ∀ g off n c, v = .slice (some ⟨g, off, none⟩) n c -> g < w.heap.size) (hS : ∀ k, S1 k -> S k \/ w.heap.size <= k) : Outs S1 v := fun g off n c hv hs => by
 rcases hS g hs with h1 | h1
 ·exact h g off n c hv h1
 ·have := hl g off n c hv; omega
theorem JS.wrok_frame {n : Nat} (hn : n <= 4096) {x : Int × ByteArray} (h : J.WrOk n x) : Fr.WrOk x := by
 obtain ⟨h1, h2, h3⟩ := h
 unfold JS.home at h1
 exact ⟨by omega, by omega, h3⟩
structure Lies (w : World) (a : Nat) (v : Value) : Prop where
 lt : ∀ g off n c, v = .slice (some ⟨g, off, none⟩) n c -> g < w.heap.size
 ne : ∀ g off n c, v = .slice (some ⟨g, off, none⟩) n c -> g ≠ a
set_option maxHeartbeats 2000000 in
theorem commit_any (hj : Jr 104 w a p J) (hd : Stands S w p D) (ha : ¬ S a) (ok : J.Ok D.disk.length) (hp : D.pend.length <= 700000) (hl : L.length <= 1000) (hs : ∀ x ∈ L, x.2.size <= maxLen) (h : SlW w v L) (hou : Outs S v) (hli : Lies w a v) :
  Calls Tryz.prog 73 #[.pointer (some ⟨a, 0, none⟩), v] w fun e w' => e = .returned (.int .i64 (J.commit D L).1) /\ JLeaves 104 S w w' a p (J.commit D L).2.1 (J.commit D L).2.2 := by
 have CC := Lib.hid (jcheck_any hj hd ok hl hs h)
 have hnd := hd.ok.few
 have hsh := h
 obtain ⟨lao, lc, rfl, _⟩ := hsh
 have HJ := Lib.hid hj; clear hj
 have HD := Lib.hid hd; clear hd
 have HA := Lib.hid ha; clear ha
 have HOK := Lib.hid ok; clear ok
 have HSl := Lib.hid h; clear h
 have HOu := Lib.hid hou; clear hou
 have HLi := Lib.hid hli; clear hli
 by_cases hc : J.chk D.disk.length L = 0
 ·obtain ⟨l1, l2, hw⟩ := (J.chk_ok _ L).1 hc
  have HPk : Hid (Fr.pk J.next L = (Fr.packL J.next L, 0)) := by
   show _ = _
   unfold Fr.pk
   rw [if_pos ((Fr.chk_ok L).2 ⟨l1, l2, fun x hx => JS.wrok_frame hnd (hw x hx)⟩)]
  have CP : Hid (∀ W, Below w.heap.size w W -> Calls Tryz.prog 129 #[.int .u64 (J.next : Int), .slice lao L.length lc] W fun e w' => ∃ u, e = .returned (.tuple #[u, .int .i64 0]) /\ OwnS W.heap.size w' u (Fr.packL J.next L) /\ Below W.heap.size W w') := fun W hW => by
   have := Fr.pack_any J.next L _ W HOK.out.n64 hl hs (HSl.out.below hW)
   rw [HPk.out] at this
   exact this
  have HCm0 : Hid (J.commit D L = (fun c : Int × DevS × JS => if c.1 ≠ 0 then c else if (c.2.2.addF c.2.1 (Fr.bs (Fr.topL J.next L)) (L.map (·.2))).1 ≠ 0 then c.2.2.addF c.2.1 (Fr.bs (Fr.topL J.next L)) (L.map (·.2)) else
    (((c.2.2.addF c.2.1 (Fr.bs (Fr.topL J.next L)) (L.map (·.2))).2.1.wrs L).1, ((c.2.2.addF c.2.1 (Fr.bs (Fr.topL J.next L)) (L.map (·.2))).2.1.wrs L).2, (c.2.2.addF c.2.1 (Fr.bs (Fr.topL J.next L)) (L.map (·.2))).2.2)) (if J.left < L.length + 2 then J.ckp D else (0, D, J))) := by
   show _ = _
   unfold JS.commit
   rw [if_neg (by simpa using hc)]
  rw [hc] at CC
  have c6 := HJ.out.c6
  have HW := Lib.hid hw
  clear hc hs hw HPk
  go_enter Tryz.func73, Tryz.ntmps73
  go_wp2_with fail
  refine CC.out.mono ?_
  rintro e w1 ⟨rfl, hb1⟩
  have HB1 := Lib.hid hb1; clear hb1 CC
  have c6' := (HB1.out.cell (p := ⟨a, 6, none⟩) HJ.out.lt).trans c6
  clear c6
  go_wp2_with fail
  refine (CP.out _ HB1.out).mono ?_
  rintro e w2 ⟨u, rfl, hu2, hb2⟩
  have HB2 := Lib.hid (HB1.out.trans (hb2.mono HB1.out.size))
  obtain ⟨g, c4, hv, hcap, hgb, hg2, hst, _⟩ := hu2.here (by simp [Fr.packL])
  have hlp : (Fr.packL J.next L).length = L.length + 1 := by simp [Fr.packL]
  rw [hlp] at hv hcap
  subst hv
  have hgw : w.heap.size <= g := Nat.le_trans HB1.out.size hgb
  have HRow := Lib.hid hst
  have hmB := HB1.out.size
  clear hu2 hb2 hst hlp HB1 c6'
  have CL := Lib.hid (left_drew (HJ.out.below HB2.out) HOK.out hnd)
  have hlf := HOK.out.fu
  have hlog := HOK.out.l1
  have hleft : J.left = J.log - J.full := rfl
  by_cases hlt : J.left < L.length + 2
  ·rw [if_pos hlt] at HCm0
   have CK : Hid (∀ W, Below w2.heap.size w2 W -> Calls Tryz.prog 126 #[.pointer (some ⟨a, 0, none⟩)] W fun e w' => e = .returned (.int .i64 (J.ckp D).1) /\ JLeaves 104 S w2 w' a p (J.ckp D).2.1 (J.ckp D).2.2) := fun W hW =>
    (ckp_any ((HJ.out.below HB2.out).below hW) ((HD.out.below HB2.out).below hW) HA.out HOK.out (by omega)).mono fun e w' ⟨he, hv⟩ => ⟨he, JLeaves.from hW hv⟩
   have HCd : Hid ((J.ckp D).2.1.disk.length = D.disk.length /\ (J.ckp D).2.1.pend.length <= 710000 /\ ((J.ckp D).1 = 0 -> (J.ckp D).2.2 = J.next')) := ⟨JS.ckp_disk, by have := JS.ckp_len (J := J) (D := D); omega, JS.ckp_good⟩
   generalize J.ckp D = R1 at *
   obtain ⟨er1, D0, J0⟩ := R1
   simp only at CK HCd HCm0
   have hlt' : (J.left : Int) < (L.length : Int) + 1 + 1 := by omega
   go_wp2_with fail
   refine CL.out.mono ?_
   rintro e w3 ⟨rfl, rfl⟩
   go_wp2_with fail
   refine (CK.out _ ((Below.refl _ _).drew)).mono ?_
   rintro e w4 ⟨rfl, hv4⟩
   obtain ⟨S0, hS0, hs0, hj0, ho0⟩ := hv4
   have hS0' : ∀ k, S0 k -> S k \/ w.heap.size <= k := fun k hk => by rcases hS0 k hk with h | h; exact .inl h; exact .inr (by have := HB2.out.size; omega)
   have hO0' : Only (fun k => S k \/ k = a) w w4 := (Only.of_below _ HB2.out (Nat.le_refl _)).trans ho0 (fun _ _ h => h)
   by_cases he1 : er1 = 0
   ·have he1' : (er1 != 0) = false := by simp [he1]
    rw [if_neg (by simpa using he1)] at HCm0
    obtain ⟨hk1, hk2, hk3⟩ := HCd.out
    have hJ0 := hk3 he1
    have HCm := HCm0; clear HCm0
    have HJ0 := Lib.hid hj0; have HD0 := Lib.hid hs0
    have HN0 : Hid (¬ S0 a) := fun h => by rcases hS0 a h with h | h; exact HA.out h; have := (HJ.out.below HB2.out).lt; omega
    have HOK0 : Hid (J0.Ok D0.disk.length) := by show J0.Ok _; rw [hk1, hJ0]; exact HOK.out.next'
    have HDk0 := Lib.hid hk1
    have hfu0 : J0.full = 0 /\ J0.log = J.log := by rw [hJ0]; exact ⟨rfl, rfl⟩
    have hl50 := HOK.out.l0
    have hng : ¬ (S g \/ g = a) := fun h => by rcases h with h | h; have := HD.out.lt _ h; omega; have := HJ.out.lt; omega
    have hg0 : g < w4.heap.size := Nat.lt_of_lt_of_le hg2 ho0.size
    have HNg : Hid (¬ S0 g) := fun h => by rcases hS0 g h with h | h; exact hng (.inl h); omega
    have HRow0 : Hid (StrsAt w4 g 0 (Fr.bs (Fr.topL J.next L) :: L.map (·.2))) := fun j hj => (ho0.cell (p := ⟨g, 0 + j, none⟩) hg2 hng).trans (HRow.out j hj)
    have HSl0 : Hid (SlW w4 (.slice lao L.length lc) L) := SlW.only HSl.out hO0' (HOu.out.or_ne HLi.out.ne)
    have HOu0 : Hid (Outs S0 (.slice lao L.length lc)) := HOu.out.grown HLi.out.lt hS0'
    have HNa0 := Lib.hid HLi.out.ne
    have HLt0 : Hid (∀ g off n c, (Value.slice lao L.length lc) = .slice (some ⟨g, off, none⟩) n c -> g < w4.heap.size) := fun g off n c hv => Nat.lt_of_lt_of_le (HLi.out.lt g off n c hv) hO0'.size
    have HS0 := Lib.hid hS0'; have HO0 := Lib.hid hO0'
    clear hj0 hs0 hS0 hS0' ho0 hO0' hk3 hJ0 hng CK CL HRow CP
    have hf0 : J0.full + (L.map (·.2)).length + 1 <= J0.log := by rw [List.length_map]; omega
    have CA := Lib.hid (add_any (ds := L.map (·.2)) (top := Fr.bs (Fr.topL J.next L)) g 0 c4 HJ0.out HD0.out HN0.out HOK0.out (by omega) (by rw [List.length_map]; omega) hf0 hg0 HRow0.out HNg.out)
    rw [List.length_map] at CA
    have HX : Hid ((J0.addF D0 (Fr.bs (Fr.topL J.next L)) (L.map (·.2))).2.1.disk.length = D.disk.length /\ (J0.addF D0 (Fr.bs (Fr.topL J.next L)) (L.map (·.2))).2.1.pend.length <= 800000) := by
     refine ⟨JS.addF_disk.trans HDk0.out, ?_⟩
     have := JS.addF_len (J := J0) (D := D0) (top := Fr.bs (Fr.topL J.next L)) (ds := L.map (·.2))
     rw [List.length_map] at this
     omega
    generalize J0.addF D0 (Fr.bs (Fr.topL J.next L)) (L.map (·.2)) = R2 at *
    obtain ⟨er2, D2, J2⟩ := R2
    simp only at CA HX HCm
    go_wp2_with fail
    refine CA.out.mono ?_
    rintro e w5 ⟨rfl, hv5⟩
    obtain ⟨S5, hS5, hs5, hj5, ho5⟩ := hv5
    by_cases he2 : er2 = 0
    ·have he2' : (er2 != 0) = false := by simp [he2]
     rw [if_neg (by simpa using he2)] at HCm
     have hn5 : ¬ S5 a := fun h => by rcases hS5 a h with h | h; exact HN0.out h; have := HJ0.out.lt; omega
     have hsl5 : Fr.SlW w5 (.slice lao L.length lc) L := SlW.only HSl0.out ho5 (HOu0.out.or_ne HNa0.out)
     have hou5 : Outs S5 (.slice lao L.length lc) := HOu0.out.grown HLt0.out hS5
     have CW := Lib.hid (writeAll_any hj5 hs5 hn5 (by omega) (by have := HX.out.2; omega) hsl5 hou5)
     have HF : Hid (∀ w' , Leaves S5 w5 w' p (D2.wrs L).2 -> JLeaves 104 S w w' a p (D2.wrs L).2 J2) := fun w' h => JLeaves.next HS0.out HO0.out (JLeaves.next hS5 ho5 (JLeaves.of h hj5 hn5))
     clear hS5 hs5 hj5 ho5 hn5 hsl5 hou5
     go_wp2_with fail
     refine CW.out.mono ?_
     rintro e w6 ⟨rfl, hv6⟩
     have HF2 := Lib.hid (HF.out _ hv6); clear hv6
     go_wp2
     go_ret
     exact ⟨by rw [HCm.out]; rfl, by rw [HCm.out]; exact HF2.out⟩
    ·have he2' : (er2 != 0) = true := by simp [he2]
     rw [if_pos (by simpa using he2)] at HCm
     have HF : Hid (JLeaves 104 S w w5 a p D2 J2) := JLeaves.next HS0.out HO0.out ⟨S5, hS5, hs5, hj5, ho5⟩
     clear hS5 hs5 hj5 ho5
     go_wp2
     go_ret
     exact ⟨by rw [HCm.out]; rfl, by rw [HCm.out]; exact HF.out⟩
   ·have he1' : (er1 != 0) = true := by simp [he1]
    rw [if_pos (by simpa using he1)] at HCm0
    have HF : Hid (JLeaves 104 S w w4 a p D0 J0) := ⟨S0, hS0', hs0, hj0, hO0'⟩
    clear hS0 hs0 hj0 ho0 hS0' hO0'
    go_wp2
    go_ret
    exact ⟨by rw [HCm0.out]; rfl, by rw [HCm0.out]; exact HF.out⟩
  ·rw [if_neg hlt] at HCm0
   have HCm : Hid (J.commit D L = if (J.addF D (Fr.bs (Fr.topL J.next L)) (L.map (·.2))).1 ≠ 0 then J.addF D (Fr.bs (Fr.topL J.next L)) (L.map (·.2)) else
    (((J.addF D (Fr.bs (Fr.topL J.next L)) (L.map (·.2))).2.1.wrs L).1, ((J.addF D (Fr.bs (Fr.topL J.next L)) (L.map (·.2))).2.1.wrs L).2, (J.addF D (Fr.bs (Fr.topL J.next L)) (L.map (·.2))).2.2)) := HCm0.out
   clear HCm0
   have hlt' : ¬ (J.left : Int) < (L.length : Int) + 1 + 1 := by omega
   go_wp2_with fail
   refine CL.out.mono ?_
   rintro e w3 ⟨rfl, rfl⟩
   obtain ⟨w4, hw4⟩ : ∃ W, w2.drew = W := ⟨_, rfl⟩
   have hb4 : Below w2.heap.size w2 w4 := by rw [<- hw4]; exact (Below.refl _ _).drew
   have hB4 : Below w.heap.size w w4 := HB2.out.trans (hb4.mono HB2.out.size)
   rw [hw4]
   clear hw4
   have HJ0 : Hid (Jr 104 w4 a p J) := HJ.out.below hB4
   have HD0 : Hid (Stands S w4 p D) := HD.out.below hB4
   have HN0 := HA
   have HOK0 := HOK
   have HDk0 : Hid (D.disk.length = D.disk.length) := rfl
   have hng : ¬ S g := fun h => by have := HD.out.lt _ h; omega
   have HNg := Lib.hid hng
   have hg0 : g < w4.heap.size := Nat.lt_of_lt_of_le hg2 hb4.size
   have HRow0 : Hid (StrsAt w4 g 0 (Fr.bs (Fr.topL J.next L) :: L.map (·.2))) := fun j hj => (hb4.cell (p := ⟨g, 0 + j, none⟩) hg2).trans (HRow.out j hj)
   have HSl0 : Hid (SlW w4 (.slice lao L.length lc) L) := HSl.out.below hB4
   have HOu0 := HOu
   have HNa0 := Lib.hid HLi.out.ne
   have HLt0 : Hid (∀ g off n c, (Value.slice lao L.length lc) = .slice (some ⟨g, off, none⟩) n c -> g < w4.heap.size) := fun g off n c hv => Nat.lt_of_lt_of_le (HLi.out.lt g off n c hv) hB4.size
   have HS0 : Hid (∀ k, S k -> S k \/ w.heap.size <= k) := fun _ h => .inl h
   have HO0 : Hid (Only (fun k => S k \/ k = a) w w4) := Only.of_below _ hB4 (Nat.le_refl _)
   clear hng hb4 hB4 CL HRow CP
   have hf0 : J.full + (L.map (·.2)).length + 1 <= J.log := by rw [List.length_map]; omega
   have CA := Lib.hid (add_any (ds := L.map (·.2)) (top := Fr.bs (Fr.topL J.next L)) g 0 c4 HJ0.out HD0.out HN0.out HOK0.out (by omega) (by rw [List.length_map]; omega) hf0 hg0 HRow0.out HNg.out)
   rw [List.length_map] at CA
   have HX : Hid ((J.addF D (Fr.bs (Fr.topL J.next L)) (L.map (·.2))).2.1.disk.length = D.disk.length /\ (J.addF D (Fr.bs (Fr.topL J.next L)) (L.map (·.2))).2.1.pend.length <= 800000) := by
    refine ⟨JS.addF_disk.trans HDk0.out, ?_⟩
    have := JS.addF_len (J := J) (D := D) (top := Fr.bs (Fr.topL J.next L)) (ds := L.map (·.2))
    rw [List.length_map] at this
    omega
   generalize J.addF D (Fr.bs (Fr.topL J.next L)) (L.map (·.2)) = R2 at *
   obtain ⟨er2, D2, J2⟩ := R2
   simp only at CA HX HCm
   go_wp2_with fail
   refine CA.out.mono ?_
   rintro e w5 ⟨rfl, hv5⟩
   obtain ⟨S5, hS5, hs5, hj5, ho5⟩ := hv5
   by_cases he2 : er2 = 0
   ·have he2' : (er2 != 0) = false := by simp [he2]
    rw [if_neg (by simpa using he2)] at HCm
    have hn5 : ¬ S5 a := fun h => by rcases hS5 a h with h | h; exact HN0.out h; have := HJ0.out.lt; omega
    have hsl5 : Fr.SlW w5 (.slice lao L.length lc) L := SlW.only HSl0.out ho5 (HOu0.out.or_ne HNa0.out)
    have hou5 : Outs S5 (.slice lao L.length lc) := HOu0.out.grown HLt0.out hS5
    have CW := Lib.hid (writeAll_any hj5 hs5 hn5 (by omega) (by have := HX.out.2; omega) hsl5 hou5)
    have HF : Hid (∀ w' , Leaves S5 w5 w' p (D2.wrs L).2 -> JLeaves 104 S w w' a p (D2.wrs L).2 J2) := fun w' h => JLeaves.next HS0.out HO0.out (JLeaves.next hS5 ho5 (JLeaves.of h hj5 hn5))
    clear hS5 hs5 hj5 ho5 hn5 hsl5 hou5
    go_wp2_with fail
    refine CW.out.mono ?_
    rintro e w6 ⟨rfl, hv6⟩
    have HF2 := Lib.hid (HF.out _ hv6); clear hv6
    go_wp2
    go_ret
    exact ⟨by rw [HCm.out]; rfl, by rw [HCm.out]; exact HF2.out⟩
   ·have he2' : (er2 != 0) = true := by simp [he2]
    rw [if_pos (by simpa using he2)] at HCm
    have HF : Hid (JLeaves 104 S w w5 a p D2 J2) := JLeaves.next HS0.out HO0.out ⟨S5, hS5, hs5, hj5, ho5⟩
    clear hS5 hs5 hj5 ho5
    go_wp2
    go_ret
    exact ⟨by rw [HCm.out]; rfl, by rw [HCm.out]; exact HF.out⟩
 ·have HCm : Hid (J.commit D L = ((J.chk D.disk.length L : Int), D, J)) := by show _ = _; unfold JS.commit; rw [if_pos (by simpa using hc)]
  have hne : (((J.chk D.disk.length L : Nat) : Int) != 0) = true := by simp; omega
  have HF : Hid (∀ w', Below w.heap.size w w' -> JLeaves 104 S w w' a p D J) := fun w' hb => (JLeaves.refl HD.out HJ.out).below hb
  generalize J.chk D.disk.length L = er at *
  clear hc hs
  go_enter Tryz.func73, Tryz.ntmps73
  go_wp2_with fail
  refine CC.out.mono ?_
  rintro e w1 ⟨rfl, hb1⟩
  have HF2 := Lib.hid (HF.out _ hb1); clear hb1 CC
  go_wp2
  go_ret
  exact ⟨by rw [HCm.out]; rfl, by rw [HCm.out]; exact HF2.out⟩
end
end Go.Proofs.YthambopnmhkeeaaGreat
/- What nextFrame answers: the writes of the frame behind those that are there, or nothing. -/
set_option maxRecDepth 100000
namespace Go.Proofs.YthambopnmhkeeaaGreat
open Go.RowKit
open Fr (SlW SlS WritesAt StrsAt OwnS OwnW nmAt hd unp headB own_push one_cell one_one)
section
variable {S : Nat -> Prop} {w w' : World} {a p : Nat} {J : JS} {D : DevS}
theorem DevS.Ok.rdB_size (ok : D.Ok) (j : Nat) (hj : j < D.disk.length) : (D.rdB j).size = 256 := by
 unfold DevS.rdB
 split
 ·rename_i x hx
  have := List.mem_of_find?_eq_some hx
  exact (ok.pends x (List.mem_reverse.1 this)).2
 ·rw [getD_lt _ _ hj]; exact ok.whole _ (List.getElem_mem hj)
theorem DevS.rd_live (hde : D.dead = false) (j : Nat) (hj : j < D.disk.length) : D.rd (j : Int) = (D.rdB j, 0) := by
 have : D.ck (j : Int) = 0 := by
  unfold DevS.ck; rw [hde]; simp; omega
 unfold DevS.rd; rw [this]; simp
def JS.readK (J : JS) (D : DevS) (k : Nat) : List ByteArray := D.rdB (J.pos 0) :: (List.range k).map fun i => D.rdB (J.pos (i + 1))
theorem readK_succ (J : JS) (D : DevS) (k : Nat) : J.readK D (k + 1) = J.readK D k ++ [D.rdB (J.pos (k + 1))] := by
 unfold JS.readK; rw [List.range_succ, List.map_append]; rfl
theorem readK_len (J : JS) (D : DevS) (k : Nat) : (J.readK D k).length = k + 1 := by simp [JS.readK]
theorem unp_seq (l : List ByteArray) : (unp l).1 < 18446744073709551616 := by
 cases l with
 | nil => show 0 < _; omega
 | cons s D =>
  rw [Fr.unp_cons]
  split
  ·split
   ·show Fr.seqOf _ < _
    have h1 := Fr.nmAt_lt s.data.toList 4; have h2 := Fr.nmAt_lt s.data.toList 8
    unfold Fr.seqOf; omega
   ·show 0 < _; omega
  ·show 0 < _; omega
theorem unp_some (l : List ByteArray) (h : ∀ d ∈ l, d.size = 256) : (unp l).2.1.length <= l.length /\ ∀ x ∈ (unp l).2.1, x.2.size = 256 := by
 cases l with
 | nil => exact ⟨Nat.le_refl _, fun x hx => by cases hx⟩
 | cons s D =>
  rw [Fr.unp_cons]
  split
  ·split
   ·refine ⟨?_, fun x hx => ?_⟩
    ·show ((Fr.blocksOf s.data.toList).zip (D.take (nmAt s.data.toList 12))).length <= _
     rw [List.length_zip, List.length_take, List.length_cons]; omega
    ·have hx' : x ∈ (Fr.blocksOf s.data.toList).zip (D.take (nmAt s.data.toList 12)) := hx
     have := (List.of_mem_zip hx').2
     exact h _ (List.mem_cons_of_mem _ (List.mem_of_mem_take this))
   ·exact ⟨Nat.zero_le _, fun x hx => by cases hx⟩
  ·exact ⟨Nat.zero_le _, fun x hx => by cases hx⟩
set_option maxHeartbeats 2000000 in
theorem next_any (hj : Jr 104 w a p J) (hd : Stands S w p D) (ok : J.Ok D.disk.length) (hde : D.dead = false) (hp : D.pend.length <= 1000000) :
  Calls Tryz.prog 173 #[.pointer (some ⟨a, 0, none⟩)] w fun e w' => ∃ u, e = .returned (.tuple #[u, .int .i64 0]) /\ OwnW w.heap.size w' u ((J.frameOf D).getD []) /\ Below w.heap.size w w' := by
 obtain ⟨i0, hi, hz0, hz1, hz2⟩ := info_parts Tryz.infoS
 have HZ2 := Lib.hid hz2; clear hz2
 have hnd := hd.ok.few
 have hll := ok.l1
 have hfu := ok.fu
 have CB : Hid (∀ W i, J.full + i <= J.log -> Below w.heap.size w W -> Calls Tryz.prog 175 #[.pointer (some ⟨a, 0, none⟩), .int .i64 ((i : Nat) : Int)] W fun e w' => e = .returned (.int .i64 (J.pos i)) /\ w' = W.drew) :=
  fun W i h hW => behind_drew i (hj.below hW) ok hnd h
 have CR : Hid (∀ W i, Below w.heap.size w W -> Calls Tryz.prog 147 #[.pointer (some ⟨p, 0, none⟩), .int .i64 ((J.pos i : Nat) : Int)] W fun e w' => e = .returned (.tuple #[.string (D.rdB (J.pos i)), .int .i64 0]) /\ Below W.heap.size W w') := fun W i hW => by
  have := read_any (J.pos i : Int) hp (hd.below hW)
  rw [DevS.rd_live hde _ (by have := ok.pos_lt i; omega)] at this
  exact this
 have CL : Hid (∀ W, Below w.heap.size w W -> Calls Tryz.prog 130 #[.pointer (some ⟨a, 0, none⟩)] W fun e w' => e = .returned (.int .i64 J.left) /\ w' = W.drew) := fun W hW => left_drew (hj.below hW) ok hnd
 have HSZ : Hid (∀ i, (D.rdB (J.pos i)).size = 256) := fun i => hd.ok.rdB_size _ (by have := ok.pos_lt i; omega)
 have CK : Hid (∀ W v L, Below w.heap.size w W -> L.length <= 1000 -> (∀ x ∈ L, x.2.size <= maxLen) -> SlW W v L -> Calls Tryz.prog 128 #[.pointer (some ⟨a, 0, none⟩), v] W fun e w' => e = .returned (.int .i64 ((J.chk D.disk.length L : Nat) : Int)) /\ Below W.heap.size W w') :=
  fun W v L hW h1 h2 h3 => jcheck_any (hj.below hW) (hd.below hW) ok h1 h2 h3
 have ca := hj.c0
 have c6 := hj.c6
 have hal := hj.lt
 have CB0 : Hid (∀ W, Below w.heap.size w W -> Calls Tryz.prog 175 #[.pointer (some ⟨a, 0, none⟩), .int .i64 0] W fun e w' => e = .returned (.int .i64 (J.pos 0)) /\ w' = W.drew) := fun W hW => CB.out W 0 (by omega) hW
 have CR0 : Hid (∀ W, Below w.heap.size w W -> Calls Tryz.prog 147 #[.pointer (some ⟨p, 0, none⟩), .int .i64 ((J.pos 0 : Nat) : Int)] W fun e w' => e = .returned (.tuple #[.string (D.rdB (J.pos 0)), .int .i64 0]) /\ Below W.heap.size W w') := fun W hW => CR.out W 0 hW
 have HKp : Hid (∀ W, Below w.heap.size w W -> W.cell? ⟨a, 0, none⟩ = some (.pointer (some ⟨p, 0, none⟩))) := fun W hW => (hW.cell (p := ⟨a, 0, none⟩) hal).trans ca
 have HK6 : Hid (∀ W, Below w.heap.size w W -> W.cell? ⟨a, 6, none⟩ = some (.int .u64 (J.next : Int))) := fun W hW => (hW.cell (p := ⟨a, 6, none⟩) hal).trans c6
 clear hj hd c6
 have HOK := Lib.hid ok; clear ok
 have HFr : Hid (J.frameOf D = if headB (D.rdB (J.pos 0)).data.toList = true /\ nmAt (D.rdB (J.pos 0)).data.toList 12 + 1 <= J.left /\ (unp (J.readK D (nmAt (D.rdB (J.pos 0)).data.toList 12))).2.2 = 0 /\ (unp (J.readK D (nmAt (D.rdB (J.pos 0)).data.toList 12))).1 = J.next /\ J.chk D.disk.length (unp (J.readK D (nmAt (D.rdB (J.pos 0)).data.toList 12))).2.1 = 0
   then some (unp (J.readK D (nmAt (D.rdB (J.pos 0)).data.toList 12))).2.1 else none) := rfl
 obtain ⟨HD0, hHD0⟩ : ∃ x, D.rdB (J.pos 0) = x := ⟨_, rfl⟩
 have CH : Hid (∀ W, Calls Tryz.prog 205 #[.string HD0] W fun e w' => e = .returned (.tuple #[.int .u64 (((hd HD0).1 : Nat) : Int), .int .i64 (((hd HD0).2.1 : Nat) : Int), .bool (hd HD0).2.2]) /\ Below W.heap.size W w') := fun W => Fr.head_any HD0 W
 rw [hHD0] at HFr CR0
 obtain ⟨n, hn⟩ : ∃ n, nmAt HD0.data.toList 12 = n := ⟨_, rfl⟩
 rw [hn] at HFr
 cases hB : headB HD0.data.toList with
 | false =>
  have HR : Hid (J.frameOf D = none) := by show _ = _; rw [HFr.out, if_neg (by rw [hB]; simp)]
  rw [Fr.headB_false hB] at CH
  clear hB HFr hn hHD0
  go_enter Tryz.func173, Tryz.ntmps173
  go_wp2_with fail
  go_region_held3 (fun W => W.cell? ⟨a, 0, none⟩ = some (.pointer (some ⟨p, 0, none⟩)))
   (first | exact ca | exact HKp.out _ (by assumption))
   (first | (go_at_call 175; refine (CB0.out _ ?_).mono ?_; exact (Below.refl _ _).drew; rintro e w' ⟨rfl, rfl⟩)
          | (go_at_call 147; refine (CR0.out _ ?_).mono ?_; exact ((Below.refl _ _).drew).drew; rintro r w1 ⟨rfl, hb1'⟩; have hb1 : Below w.heap.size w w1 := Fr.below_predrew (Fr.below_predrew hb1'); clear hb1'))
  all_goals
   have HB1 := Lib.hid hb1
   clear hb1
   go_wp2_with fail
   refine (CH.out _).mono ?_
   rintro e w2 ⟨rfl, hb2⟩
   have HB2 := Lib.hid (HB1.out.trans (hb2.mono HB1.out.size)); clear hb2
   go_wp2
   go_ret2
   exact ⟨_, rfl, by rw [HR.out]; exact OwnW.nil _ _, HB2.out⟩
 | true =>
  rw [Fr.headB_true hB] at CH
  have hn48 : 1 <= n /\ n <= 48 := by rw [<- hn]; exact ⟨((Fr.headB_iff _).1 hB).2.2.2.1, ((Fr.headB_iff _).1 hB).2.2.2.2.1⟩
  simp only [hn] at CH
  generalize Fr.seqOf HD0.data.toList = sq0 at *
  have hlf : J.left = J.log - J.full := rfl
  by_cases hlt : J.left < n + 1
  ·have HR : Hid (J.frameOf D = none) := by show _ = _; rw [HFr.out, if_neg (fun h => by omega)]
   have hlt' : (J.left : Int) < (n : Int) + 1 := by omega
   clear hB HFr hn hHD0 hlf
   go_enter Tryz.func173, Tryz.ntmps173
   go_wp2_with fail
   go_region_held3 (fun W => W.cell? ⟨a, 0, none⟩ = some (.pointer (some ⟨p, 0, none⟩)))
    (first | exact ca | exact HKp.out _ (by assumption))
    (first | (go_at_call 175; refine (CB0.out _ ?_).mono ?_; exact (Below.refl _ _).drew; rintro e w' ⟨rfl, rfl⟩)
           | (go_at_call 147; refine (CR0.out _ ?_).mono ?_; exact ((Below.refl _ _).drew).drew; rintro r w1 ⟨rfl, hb1'⟩; have hb1 : Below w.heap.size w w1 := Fr.below_predrew (Fr.below_predrew hb1'); clear hb1'))
   all_goals
    have HB1 := Lib.hid hb1
    clear hb1
    go_wp2_with fail
    refine (CH.out _).mono ?_
    rintro e w2 ⟨rfl, hb2⟩
    have HB2 := Lib.hid (HB1.out.trans (hb2.mono HB1.out.size)); clear hb2
    go_wp2_with fail
    refine (CL.out _ HB2.out).mono ?_
    rintro e w3 ⟨rfl, rfl⟩
    go_wp2
    go_ret2
    exact ⟨_, rfl, by rw [HR.out]; exact OwnW.nil _ _, HB2.out.drew⟩
  ·have hlt' : ¬ (J.left : Int) < (n : Int) + 1 := by omega
   have hfull : J.full + n + 1 <= J.log := by omega
   clear hn hlf
   go_enter Tryz.func173, Tryz.ntmps173
   go_wp2_with fail
   go_region_held3 (fun W => W.cell? ⟨a, 0, none⟩ = some (.pointer (some ⟨p, 0, none⟩)))
    (first | exact ca | exact HKp.out _ (by assumption))
    (first | (go_at_call 175; refine (CB0.out _ ?_).mono ?_; exact (Below.refl _ _).drew; rintro e w' ⟨rfl, rfl⟩)
           | (go_at_call 147; refine (CR0.out _ ?_).mono ?_; exact ((Below.refl _ _).drew).drew; rintro r w1 ⟨rfl, hb1'⟩; have hb1 : Below w.heap.size w w1 := Fr.below_predrew (Fr.below_predrew hb1'); clear hb1'))
   all_goals
    have HB1 := Lib.hid hb1
    clear hb1
    go_wp2_with fail
    refine (CH.out _).mono ?_
    rintro e w2 ⟨rfl, hb2⟩
    have HB2 := Lib.hid (HB1.out.trans (hb2.mono HB1.out.size)); clear hb2
    go_wp2_with fail
    refine (CL.out _ HB2.out).mono ?_
    rintro e w3 ⟨rfl, rfl⟩
    have hbr2 := HB2.out.size
    go_wp2_with fail
    have hO0 : OwnS w.heap.size (w2.alloc (.cells #[.string HD0] 9)) (.slice (some ⟨w2.heap.size, 0, none⟩) 1 1) [HD0] := World.ownsRow_lit w2 #[.string HD0] 1 hbr2 (by unfold maxLen; omega) rfl
    have HO : Hid (OwnS w.heap.size (w2.alloc (.cells #[.string HD0] 9)).drew (.slice (some ⟨w2.heap.size, 0, none⟩) 1 1) (J.readK D 0)) := by
     have := hO0.below ((Below.refl _ _).drew)
     unfold JS.readK; rw [hHD0]; exact this
    clear hO0
    have HBa : Hid (Below w.heap.size w (w2.alloc (.cells #[.string HD0] 9)).drew) := (HB2.out.alloc hbr2 _).drew
    generalize (w2.alloc (.cells #[.string HD0] 9)).drew = w6 at *
    generalize (.slice (some ⟨w2.heap.size, 0, none⟩) 1 1 : Value) = v6 at *
    clear HB1 HB2 hbr2 CH CL
    go_loopw [9, 46] (fun fv i wr => ∃ k : Nat, k <= n /\ i = .int .i64 k /\ Hid (OwnS w.heap.size wr fv (J.readK D k)) /\ Hid (Below w.heap.size w wr)) (fun _ i _ => n - (intOf i).toNat)
    case atStart => exact ⟨0, Nat.zero_le _, rfl, HO, HBa⟩
    case round =>
     clear HO HBa
     obtain ⟨k, hk, rfl, HO, HB⟩ := hrel
     have hbr := HB.out.size
     have car := HKp.out _ HB.out
     by_cases hlk : k < n
     ·have hlk' : (k : Int) < (n : Int) := by omega
      have CBk : Hid (∀ W, Below w.heap.size w W -> Calls Tryz.prog 175 #[.pointer (some ⟨a, 0, none⟩), .int .i64 (1 + (k : Int))] W fun e w' => e = .returned (.int .i64 (J.pos (k + 1))) /\ w' = W.drew) := fun W hW => by
       have := CB.out W (k + 1) (by omega) hW
       rw [show (((k + 1 : Nat)) : Int) = 1 + (k : Int) by omega] at this
       exact this
      have CRk : Hid (∀ W, Below w.heap.size w W -> Calls Tryz.prog 147 #[.pointer (some ⟨p, 0, none⟩), .int .i64 ((J.pos (k + 1) : Nat) : Int)] W fun e w' => e = .returned (.tuple #[.string (D.rdB (J.pos (k + 1))), .int .i64 0]) /\ Below W.heap.size W w') := fun W hW => CR.out W (k + 1) hW
      have HSN := Lib.hid (readK_succ J D k)
      have hlen : (J.readK D k).length <= 49 := by rw [readK_len]; omega
      obtain ⟨M, hM⟩ : ∃ M, J.readK D k = M := ⟨_, rfl⟩
      rw [hM] at HO HSN hlen
      clear hM
      generalize D.rdB (J.pos (k + 1)) = pt at *
      generalize J.pos (k + 1) = pi at *
      have w1k : IntKind.i64.wrap (1 + (k : Int)) = 1 + (k : Int) := IntWalk.i64_in _ (by omega)
      go_wp2_with fail
      go_region_held3 (fun W => W.cell? ⟨a, 0, none⟩ = some (.pointer (some ⟨p, 0, none⟩)))
       (first | exact car | exact HKp.out _ (by assumption))
       (first | (go_at_call 175; refine (CBk.out _ ?_).mono ?_; exact HB.out.drew; rintro e w' ⟨rfl, rfl⟩)
              | (go_at_call 147; refine (CRk.out _ ?_).mono ?_; exact (HB.out.drew).drew; rintro r w7 ⟨rfl, hb7'⟩; have hb7 : Below w.heap.size w w7 := HB.out.trans ((Fr.below_predrew (Fr.below_predrew hb7')).mono hbr); have HO7 := Lib.hid (HO.out.below (Fr.below_predrew (Fr.below_predrew hb7'))); clear hb7'))
      all_goals
       have HB7 := Lib.hid hb7
       clear hb7 HO
       have hbr7 := HB7.out.size
       go_wp2_with (at_builtin; go_loud (refine wpList_append_own _ rfl _ _ 47 rfl w.heap.size 9 i0 _ 1 16 Tryz.underlying47 hi hz0 hz1 HZ2.out rfl (by decide) _ _ _ rfl (HO7.out.alloc _) _ 1 1 [.string pt] rfl rfl (one_cell rfl) one_one ?c3 ?c4 ?c5 ?_))
       case c3 => unfold maxLen; omega
       case c4 => omega
       case c5 => simp; omega
       intro v1 w8 hown hgrow _
       have HO8 : Hid (OwnS w.heap.size w8 v1 (J.readK D (k + 1))) := by
        show OwnS _ _ _ _
        rw [HSN.out]; exact own_push hown
       have HB8 : Hid (Below w.heap.size w w8) := ((HB7.out.alloc hbr7 _).grown hgrow (by simp; omega) (fun q hq => (HO7.out.lt q hq).1))
       clear hown hgrow
       go_wp2
       go_roundw
       case rel => exact ⟨k + 1, by omega, by go_num, HO8, HB8⟩
       case measure => simp [intOf]; omega
     ·have hkn : k = n := by omega
      subst hkn
      have hlk' : ¬ (k : Int) < (k : Int) := by omega
      have hcu : ∀ d ∈ J.readK D k, d.size = 256 := fun d hd => by
       unfold JS.readK at hd
       rcases List.mem_cons.1 hd with rfl | hd
       ·exact HSZ.out 0
       ·obtain ⟨i, _, rfl⟩ := List.mem_map.1 hd; exact HSZ.out (i + 1)
      have CU := Lib.hid (Fr.unpack_any (J.readK D k) u9 wr (by rw [readK_len]; omega) (fun d hd => by rw [hcu d hd]; unfold maxLen; omega) HO.out.sl)
      clear hcu
      have c6r := HK6.out _ HB.out
      obtain ⟨ao9, c9, hv9, _⟩ := HO.out.sl
      subst hv9
      go_wp2_with fail
      refine CU.out.mono ?_
      rintro e w7 ⟨u, rfl, hu7, hb7⟩
      have HB7 := Lib.hid (HB.out.trans (hb7.mono hbr))
      have HU7 := Lib.hid (hu7.mono hbr)
      clear hu7 hb7 CU c6r
      have c67 := HK6.out _ HB7.out
      have hF2 : J.frameOf D = if (unp (J.readK D k)).2.2 = 0 /\ (unp (J.readK D k)).1 = J.next /\ J.chk D.disk.length (unp (J.readK D k)).2.1 = 0 then some (unp (J.readK D k)).2.1 else none := by
       rw [HFr.out]
       by_cases hX : (unp (J.readK D k)).2.2 = 0 /\ (unp (J.readK D k)).1 = J.next /\ J.chk D.disk.length (unp (J.readK D k)).2.1 = 0
       ·rw [if_pos hX, if_pos ⟨hB, by omega, hX⟩]
       ·rw [if_neg hX, if_neg (fun h => hX h.2.2)]
      have HF2 := Lib.hid hF2; clear hF2 HFr
      have hws : (unp (J.readK D k)).2.1.length <= 1000 /\ ∀ x ∈ (unp (J.readK D k)).2.1, x.2.size <= maxLen := by
       have h1 := unp_some (J.readK D k) (fun d hd => by
        unfold JS.readK at hd
        rcases List.mem_cons.1 hd with rfl | hd
        ·exact HSZ.out 0
        ·obtain ⟨i, _, rfl⟩ := List.mem_map.1 hd; exact HSZ.out (i + 1))
       rw [readK_len] at h1
       exact ⟨by omega, fun x hx => by rw [h1.2 x hx]; unfold maxLen; omega⟩
      have HC7 : Hid (∀ W, Below w7.heap.size w7 W -> Calls Tryz.prog 128 #[.pointer (some ⟨a, 0, none⟩), u] W fun e w' => e = .returned (.int .i64 ((J.chk D.disk.length (unp (J.readK D k)).2.1 : Nat) : Int)) /\ Below W.heap.size W w') :=
       fun W hW => CK.out W u _ (HB7.out.trans (hW.mono HB7.out.size)) hws.1 hws.2 (HU7.out.sl.below hW)
      clear hws CK
      have hn64 : (unp (J.readK D k)).1 < 18446744073709551616 := unp_seq _
      have hx64 := HOK.out.n64
      generalize unp (J.readK D k) = U at *
      obtain ⟨sq, ws, er⟩ := U
      simp only at HF2 HC7 HU7 hn64 ⊢
      generalize J.chk D.disk.length ws = ck at *
      obtain ⟨ao10, c10, hv10, _⟩ := HU7.out.sl
      subst hv10
      have HNil : Hid (∀ W, Below w.heap.size w W -> OwnW w.heap.size W (.slice none 0 0) []) := fun W _ => OwnW.nil _ _
      by_cases h1 : er = 0
      ·have h1' : (((er : Nat) : Int) != 0) = false := by simp [h1]
       by_cases h2 : sq = J.next
       ·have h2' : (((sq : Nat) : Int) != (J.next : Int)) = false := by simp [h2]
        by_cases h3 : ck = 0
        ·have h3' : (((ck : Nat) : Int) != 0) = false := by simp [h3]
         rw [if_pos ⟨h1, h2, h3⟩] at HF2
         clear h1 h2 h3
         go_wp2_with fail
         refine (HC7.out _ (Below.refl _ _)).mono ?_
         rintro e w8 ⟨rfl, hb8⟩
         have HB8 := Lib.hid (HB7.out.trans (hb8.mono HB7.out.size))
         have HU8 := Lib.hid (HU7.out.below hb8)
         clear hb8
         go_wp2
         go_ret2
         exact ⟨_, rfl, by rw [HF2.out]; exact HU8.out, HB8.out⟩
        ·have h3' : (((ck : Nat) : Int) != 0) = true := by simp [h3]
         rw [if_neg (fun h => h3 h.2.2)] at HF2
         clear h1 h2 h3
         go_wp2_with fail
         refine (HC7.out _ (Below.refl _ _)).mono ?_
         rintro e w8 ⟨rfl, hb8⟩
         have HB8 := Lib.hid (HB7.out.trans (hb8.mono HB7.out.size))
         clear hb8
         go_wp2
         go_ret2
         exact ⟨_, rfl, by rw [HF2.out]; exact OwnW.nil _ _, HB8.out⟩
       ·have h2' : (((sq : Nat) : Int) != (J.next : Int)) = true := by simp; omega
        rw [if_neg (fun h => h2 h.2.1)] at HF2
        clear h1 h2
        go_wp2
        go_ret2
        exact ⟨_, rfl, by rw [HF2.out]; exact OwnW.nil _ _, HB7.out⟩
      ·have h1' : (((er : Nat) : Int) != 0) = true := by simp [h1]
       rw [if_neg (fun h => h1 h.1)] at HF2
       clear h1
       go_wp2
       go_ret2
       exact ⟨_, rfl, by rw [HF2.out]; exact OwnW.nil _ _, HB7.out⟩
end
end Go.Proofs.YthambopnmhkeeaaGreat
/- What findSlot answers and leaves behind: the slot that counts. -/
set_option maxRecDepth 100000
namespace Go.Proofs.YthambopnmhkeeaaGreat
open Go.RowKit
section
variable {S : Nat -> Prop} {w w' : World} {a p : Nat} {J : JS} {D : DevS}
def DevS.best (D : DevS) : Nat -> Option ((Nat × Nat × Nat × Nat) × Nat)
 | 0 => none
 | k + 1 => match D.slotAt k with
  | none => D.best k
  | some x => match D.best k with
   | none => some (x, k)
   | some y => if y.1.1 < x.1 then some (x, k) else some y
def bestJ : Option ((Nat × Nat × Nat × Nat) × Nat) -> JS
 | none => ⟨0, 0, 0, 0, 0, 0, 0⟩
 | some x => ⟨x.1.1, x.1.2.1, x.1.2.2.1, x.1.2.2.2, x.2, 0, 0⟩
theorem find_best (D : DevS) : D.find = (D.best 2).map (fun x => slotJ x.1 x.2) := by
 unfold DevS.find
 show _ = Option.map _ (match D.slotAt 1 with | none => D.best 1 | some x => match D.best 1 with | none => some (x, 1) | some y => if y.1.1 < x.1 then some (x, 1) else some y)
 have h1 : D.best 1 = match D.slotAt 0 with | none => none | some x => some (x, 0) := by
  show (match D.slotAt 0 with | none => D.best 0 | some x => match D.best 0 with | none => some (x, 0) | some y => if y.1.1 < x.1 then some (x, 0) else some y) = _
  rfl
 rw [h1]
 cases D.slotAt 0 with
 | none => cases D.slotAt 1 <;> rfl
 | some x =>
  cases D.slotAt 1 with
  | none => rfl
  | some y =>
   show (if x.1 < y.1 then _ else _) = Option.map _ (if x.1 < y.1 then _ else _)
   split <;> rfl
theorem best_one (D : DevS) (h : D.disk.length = 1) : D.best 2 = D.best 1 := by
 have : D.slotAt 1 = none := by unfold DevS.slotAt; rw [if_neg (by omega)]
 show (match D.slotAt 1 with | none => D.best 1 | some x => _) = _
 rw [this]
theorem best_none (D : DevS) (k : Nat) (h : D.slotAt k = none) : D.best (k + 1) = D.best k := by
 show (match D.slotAt k with | none => D.best k | some x => _) = _
 rw [h]
theorem best_some (D : DevS) (k : Nat) {x : Nat × Nat × Nat × Nat} (h : D.slotAt k = some x) : D.best (k + 1) = match D.best k with | none => some (x, k) | some y => if y.1.1 < x.1 then some (x, k) else some y := by
 show (match D.slotAt k with | none => D.best k | some x => _) = _
 rw [h]
set_option maxHeartbeats 2000000 in
theorem find_dead (hj : Jr 104 w a p J) (hd : Stands S w p D) (hde : D.dead = true) (hp : D.pend.length <= 1000000) :
  Calls Tryz.prog 124 #[.pointer (some ⟨a, 0, none⟩)] w fun e w' => e = .returned (.int .i64 4) /\ Below w.heap.size w w' := by
 have h1 := hd.ok.some
 have hnd := hd.ok.few
 have hr : D.rd 0 = (ByteArray.empty, 4) := by unfold DevS.rd DevS.ck; rw [hde]; rfl
 have CBl : Hid (∀ W, Below w.heap.size w W -> Calls Tryz.prog 58 #[.pointer (some ⟨p, 0, none⟩)] W fun e w' => e = .returned (.int .i64 D.disk.length) /\ W = w') := fun W hW => blocks_any (hd.below hW)
 have CR : Hid (∀ W, Below w.heap.size w W -> Calls Tryz.prog 147 #[.pointer (some ⟨p, 0, none⟩), .int .i64 0] W fun e w' => e = .returned (.tuple #[.string ByteArray.empty, .int .i64 4]) /\ Below W.heap.size W w') := fun W hW => by
  have := read_any 0 hp (hd.below hW); rw [hr] at this; exact this
 have c0 := hj.c0
 have HKp : Hid (∀ W, Below w.heap.size w W -> W.cell? ⟨a, 0, none⟩ = some (.pointer (some ⟨p, 0, none⟩))) := fun W hW => (hW.cell (p := ⟨a, 0, none⟩) hj.lt).trans c0
 clear hj hd hr
 generalize D.disk.length = nd at *
 obtain ⟨M, hM⟩ : ∃ M : Nat, M = min 2 nd := ⟨_, rfl⟩
 have hM1 : 1 <= M := by omega
 go_enter Tryz.func124, Tryz.ntmps124
 go_wp2_with fail
 refine (CBl.out _ (Below.refl _ _)).mono ?_
 rintro e w1 ⟨rfl, rfl⟩
 go_wp2_with fail
 go_loopw [15] (fun i wr => i = .int .i64 0 /\ wr = w) (fun _ _ => 0)
 case atStart => exact ⟨rfl, rfl⟩
 case round =>
  obtain ⟨rfl, rfl⟩ := hrel
  have h2 : (0 : Int) < min 2 (nd : Int) := by omega
  go_wp2_with fail
  refine (CR.out _ (Below.refl _ _)).mono ?_
  rintro e w1 ⟨rfl, hb⟩
  have HB := Lib.hid hb; clear hb
  go_wp2
  go_ret
  exact ⟨rfl, HB.out⟩
def FindP (D : DevS) (a p : Nat) (e : Ending) (w' : World) : Prop := (D.find = none -> e = .returned (.int .i64 10)) /\ ∀ J, D.find = some J -> e = .returned (.int .i64 0) /\ Jr 104 w' a p J
abbrev slW (w : World) (a : Nat) (x : Nat × Nat × Nat × Nat) (k : Nat) : World := ((((w.setCell ⟨a, 1, none⟩ (.int .u64 (x.1 : Int))).setCell ⟨a, 2, none⟩ (.int .u64 (x.2.1 : Int))).setCell ⟨a, 3, none⟩ (.int .i64 (x.2.2.1 : Int))).setCell ⟨a, 4, none⟩ (.int .i64 (x.2.2.2 : Int))).setCell ⟨a, 5, none⟩ (.int .i64 (k : Int))
theorem sl_only (w : World) (a : Nat) (x : Nat × Nat × Nat × Nat) (k : Nat) : Only (fun k => k = a) w (slW w a x k) :=
 (((((Only.refl (fun k => k = a) w).setCell (p := ⟨a, 1, none⟩) (fun _ => rfl) _).setCell (p := ⟨a, 2, none⟩) (fun _ => rfl) _).setCell (p := ⟨a, 3, none⟩) (fun _ => rfl) _).setCell (p := ⟨a, 4, none⟩) (fun _ => rfl) _).setCell (p := ⟨a, 5, none⟩) (fun _ => rfl) _
theorem Jr.sl {t : TypeId} (h : Jr t w a p J) (x : Nat × Nat × Nat × Nat) (k : Nat) : Jr t (slW w a x k) a p ⟨x.1, x.2.1, x.2.2.1, x.2.2.2, k, J.next, J.full⟩ := by
 have h1 := h.put (J' := { J with e := x.1 }) (i := 1) (v := .int .u64 (x.1 : Int)) (by simp [JCells])
 have h2 := h1.put (J' := { J with e := x.1, s := x.2.1 }) (i := 2) (v := .int .u64 (x.2.1 : Int)) (by simp [JCells])
 have h3 := h2.put (J' := { J with e := x.1, s := x.2.1, log := x.2.2.1 }) (i := 3) (v := .int .i64 (x.2.2.1 : Int)) (by simp [JCells])
 have h4 := h3.put (J' := { J with e := x.1, s := x.2.1, log := x.2.2.1, p := x.2.2.2 }) (i := 4) (v := .int .i64 (x.2.2.2 : Int)) (by simp [JCells])
 exact h4.put (J' := ⟨x.1, x.2.1, x.2.2.1, x.2.2.2, k, J.next, J.full⟩) (i := 5) (v := .int .i64 (k : Int)) (by simp [JCells])
set_option maxHeartbeats 4000000 in
theorem find_live (hj : Jr 104 w a p ⟨0, 0, 0, 0, 0, 0, 0⟩) (hd : Stands S w p D) (ha : ¬ S a) (hde : D.dead = false) (hp : D.pend.length <= 1000000) :
  Calls Tryz.prog 124 #[.pointer (some ⟨a, 0, none⟩)] w fun e w' => Only (fun k => k = a) w w' /\ FindP D a p e w' := by
 have h1 := hd.ok.some
 have hnd := hd.ok.few
 have hal := hj.lt
 have CBl : Hid (∀ W, Only (fun k => k = a) w W -> Calls Tryz.prog 58 #[.pointer (some ⟨p, 0, none⟩)] W fun e w' => e = .returned (.int .i64 D.disk.length) /\ W = w') := fun W hW => blocks_any (hd.kept hW (fun k hk hka => ha (hka ▸ hk)))
 have CR : Hid (∀ W k, k < D.disk.length -> Only (fun k => k = a) w W -> Calls Tryz.prog 147 #[.pointer (some ⟨p, 0, none⟩), .int .i64 ((k : Nat) : Int)] W fun e w' => e = .returned (.tuple #[.string (D.rdB k), .int .i64 0]) /\ Below W.heap.size W w') := fun W k hk hW => by
  have := read_any (k : Int) hp (hd.kept hW (fun k hk hka => ha (hka ▸ hk)))
  rw [DevS.rd_live hde _ hk] at this; exact this
 have CS : Hid (∀ W k, k < D.disk.length -> Calls Tryz.prog 172 #[.string (D.rdB k), .int .i64 (D.disk.length : Int)] W fun r w' => r = .returned (slotV (D.slotAt k)) /\ Below W.heap.size W w') := fun W k hk => by
  have := readSlot_any (D.rdB k) D.disk.length W (hd.ok.rdB_size k hk) hnd
  have e : D.slotAt k = rdSlot (D.rdB k) D.disk.length := by unfold DevS.slotAt; rw [if_pos hk]
  rw [e]; exact this
 have HFB := Lib.hid (find_best D)
 have HB1 := Lib.hid (best_one D)
 have HJ := Lib.hid hj
 have c0 := hj.c0
 clear hj hd ha hde
 obtain ⟨nd, hnd'⟩ : ∃ n, D.disk.length = n := ⟨_, rfl⟩
 rw [hnd'] at CBl CS CR h1 hnd HB1
 clear hnd'
 obtain ⟨M, hM⟩ : ∃ M : Nat, M = min 2 nd := ⟨_, rfl⟩
 have hMe : min 2 (nd : Int) = (M : Int) := by omega
 go_enter Tryz.func124, Tryz.ntmps124
 go_wp2_with fail
 refine (CBl.out _ (Only.refl _ _)).mono ?_
 rintro e w1 ⟨rfl, rfl⟩
 go_wp2_with fail
 go_loopw [3, 15] (fun fd i wr => ∃ k : Nat, k <= M /\ i = .int .i64 k /\ fd = .bool (D.best k).isSome /\ Hid (Jr 104 wr a p (bestJ (D.best k))) /\ Hid (Only (fun k => k = a) w wr)) (fun _ i _ => M - (intOf i).toNat)
 case atStart => exact ⟨0, Nat.zero_le _, rfl, rfl, HJ, Only.refl _ _⟩
 case round =>
  obtain ⟨k, hk, rfl, rfl, HJk, HO⟩ := hrel
  clear HJ c0
  by_cases hlt : k < M
  ·have hkn : k < nd := by omega
   have ca := HJk.out.c0
   have halr := HJk.out.lt
   have CRk := Lib.hid (CR.out wr k hkn HO.out)
   have CSk := Lib.hid (fun W => CS.out W k hkn)
   have CBk : Hid (∀ W, Below wr.heap.size wr W -> Calls Tryz.prog 58 #[.pointer (some ⟨p, 0, none⟩)] W fun e w' => e = .returned (.int .i64 nd) /\ W = w') := fun W hW => CBl.out W (HO.out.trans (Only.of_below (fun _ => False) hW (Nat.le_refl _)) (fun _ _ f => f.elim))
   clear CR CS CBl
   generalize D.rdB k = tx at *
   have hlt' : (k : Int) < (M : Int) := by omega
   go_wp2_with fail
   refine CRk.out.mono ?_
   rintro e w1 ⟨rfl, hb1⟩
   have HB1' := Lib.hid hb1; clear hb1
   have ca1 := (HB1'.out.cell (p := ⟨a, 0, none⟩) halr).trans ca
   go_wp2_with fail
   refine (CBk.out _ HB1'.out).mono ?_
   rintro e w2 ⟨rfl, rfl⟩
   go_wp2_with fail
   refine (CSk.out _).mono ?_
   rintro e w3 ⟨rfl, hb3⟩
   have HB3 := Lib.hid (HB1'.out.trans (hb3.mono HB1'.out.size)); clear hb3 HB1' ca ca1 CRk CSk CBk
   have HJ3 := Lib.hid (HJk.out.below HB3.out)
   have HO3 : Hid (Only (fun k => k = a) w w3) := HO.out.trans (Only.of_below (fun _ => False) HB3.out (Nat.le_refl _)) (fun _ _ f => f.elim)
   have hal3 := HJ3.out.lt
   cases hs : D.slotAt k with
   | none =>
    have HBn : Hid (D.best (k + 1) = D.best k) := best_none D k hs
    have HBi : Hid ((D.best (k + 1)).isSome = (D.best k).isSome) := by show _ = _; rw [HBn.out]
    generalize (D.best k).isSome = fd at *
    simp only [slotV]
    clear hs
    go_wp2_with fail
    go_quiet (fail)
    go_wp2
    go_roundw
    case rel =>
     have hb : Below w3.heap.size w3 ((w3.alloc (.cells #[.int .u64 0, .int .u64 0, .int .i64 0, .int .i64 0] 102)).drewN nq) := Fr.below_drewN ((Below.refl _ _).alloc (Nat.le_refl _) _) _
     exact ⟨k + 1, by omega, by go_num, by rw [HBi.out], by rw [HBn.out]; exact HJ3.out.below hb, HO3.out.trans (Only.of_below (fun _ => False) hb (Nat.le_refl _)) (fun _ _ f => f.elim)⟩
    case measure => simp [intOf]; omega
   | some x =>
    have HBs := Lib.hid (best_some D k hs)
    clear hs
    obtain ⟨xe, xs, xl, xp⟩ := x
    simp only [slotV]
    obtain ⟨X, hX⟩ : ∃ X, w3.alloc (.cells #[.int .u64 (xe : Int), .int .u64 (xs : Int), .int .i64 (xl : Int), .int .i64 (xp : Int)] 102) = X := ⟨_, rfl⟩
    have hXb : Below w3.heap.size w3 X := by rw [<- hX]; exact (Below.refl _ _).alloc (Nat.le_refl _) _
    have hXh : X.heap[w3.heap.size]? = some (.cells #[.int .u64 (xe : Int), .int .u64 (xs : Int), .int .i64 (xl : Int), .int .i64 (xp : Int)] 102 (0, 0)) := by rw [<- hX, heap_alloc_new]
    have k0 : X.cell? ⟨w3.heap.size, 0, none⟩ = some (.int .u64 (xe : Int)) := by rw [cell_at hXh]; rfl
    have k1 : X.cell? ⟨w3.heap.size, 1, none⟩ = some (.int .u64 (xs : Int)) := by rw [cell_at hXh]; rfl
    have k2 : X.cell? ⟨w3.heap.size, 2, none⟩ = some (.int .i64 (xl : Int)) := by rw [cell_at hXh]; rfl
    have k3 : X.cell? ⟨w3.heap.size, 3, none⟩ = some (.int .i64 (xp : Int)) := by rw [cell_at hXh]; rfl
    have HJX := Lib.hid (HJ3.out.below hXb)
    have HOX : Hid (Only (fun k => k = a) w X) := HO3.out.trans (Only.of_below (fun _ => False) hXb (Nat.le_refl _)) (fun _ _ f => f.elim)
    have HX := Lib.hid hX
    have hne : w3.heap.size ≠ a := by omega
    clear hX hXb hXh HJ3 HO3 HB3 HJk
    cases hbk : D.best k with
    | none =>
     rw [hbk] at HBs HJX
     have HBn : Hid (D.best (k + 1) = some ((xe, xs, xl, xp), k)) := HBs.out
     simp only [Option.isSome_none]
     simp only [bestJ] at HJX
     clear HBs hbk
     have X0 := HJX.out.c1; have X1 := HJX.out.c2; have X2 := HJX.out.c3; have X3 := HJX.out.c4; have X4 := HJX.out.c5
     have F0 := HJX.out.f 1; have F1 := HJX.out.f 2; have F2 := HJX.out.f 3; have F3 := HJX.out.f 4; have F4 := HJX.out.f 5
     go_wp2_with fail
     rw [HX.out]
     go_quiet (fail)
     go_wp2_with fail
     go_region
     go_wp2
     go_roundw
     case rel => exact ⟨k + 1, by omega, by go_num, by rw [HBn.out]; rfl, by rw [HBn.out]; exact (HJX.out.sl (xe, xs, xl, xp) k).below (Fr.below_drewN (Below.refl _ _) _), (HOX.out.trans (sl_only X a (xe, xs, xl, xp) k) (fun _ _ h => h)).trans (Only.of_below (fun _ => False) (Fr.below_drewN (Below.refl _ _) _) (Nat.le_refl _)) (fun _ _ f => f.elim)⟩
     case measure => simp [intOf]; omega
    | some y =>
     obtain ⟨⟨ye, ys, yl, yp⟩, yi⟩ := y
     rw [hbk] at HBs HJX
     simp only [Option.isSome_some]
     simp only [bestJ] at HJX
     by_cases hg : ye < xe
     ·have HBn : Hid (D.best (k + 1) = some ((xe, xs, xl, xp), k)) := by
       show _ = _; rw [HBs.out]; show (if ye < xe then _ else _) = _; rw [if_pos hg]
      have hg' : (ye : Int) < (xe : Int) := by omega
      have hgd : decide ((ye : Int) < (xe : Int)) = true := decide_eq_true hg'
      clear HBs hbk
      have X0 := HJX.out.c1; have X1 := HJX.out.c2; have X2 := HJX.out.c3; have X3 := HJX.out.c4; have X4 := HJX.out.c5
      have F0 := HJX.out.f 1; have F1 := HJX.out.f 2; have F2 := HJX.out.f 3; have F3 := HJX.out.f 4; have F4 := HJX.out.f 5
      go_wp2_with fail
      rw [HX.out]
      go_quiet (fail)
      go_wp2_with fail
      go_region
      go_wp2
      go_roundw
      case rel => exact ⟨k + 1, by omega, by go_num, by rw [HBn.out]; rfl, by rw [HBn.out]; exact (HJX.out.sl (xe, xs, xl, xp) k).below (Fr.below_drewN (Below.refl _ _) _), (HOX.out.trans (sl_only X a (xe, xs, xl, xp) k) (fun _ _ h => h)).trans (Only.of_below (fun _ => False) (Fr.below_drewN (Below.refl _ _) _) (Nat.le_refl _)) (fun _ _ f => f.elim)⟩
      case measure => simp [intOf]; omega
     ·have HBn : Hid (D.best (k + 1) = some ((ye, ys, yl, yp), yi)) := by
       show _ = _; rw [HBs.out]; show (if ye < xe then _ else _) = _; rw [if_neg hg]
      have hg' : ¬ (ye : Int) < (xe : Int) := by omega
      have hgd : decide ((ye : Int) < (xe : Int)) = false := decide_eq_false hg'
      have X0 := HJX.out.c1
      clear HBs hbk
      go_wp2_with fail
      rw [HX.out]
      go_quiet (fail)
      go_wp2
      go_roundw
      case rel => exact ⟨k + 1, by omega, by go_num, by rw [HBn.out]; rfl, by rw [HBn.out]; exact HJX.out.below (Fr.below_drewN (Below.refl _ _) _), HOX.out.trans (Only.of_below (fun _ => False) (Fr.below_drewN (Below.refl _ _) _) (Nat.le_refl _)) (fun _ _ f => f.elim)⟩
      case measure => simp [intOf]; omega
  ·have hkn : k = M := by omega
   have hb2 : D.best k = D.best 2 := by
    by_cases h2 : nd = 1
    ·rw [HB1.out h2, hkn, hM, h2]; rfl
    ·rw [hkn, hM, show min 2 nd = 2 by omega]
   have hlt' : ¬ (k : Int) < (M : Int) := by omega
   rw [hb2] at HJk ⊢
   cases hb : D.best 2 with
   | none =>
    rw [hb] at HJk
    have HF : Hid (D.find = none) := by show _ = _; rw [HFB.out, hb]; rfl
    simp only [Option.isSome_none]
    clear hb hb2 hkn
    go_wp2
    go_ret
    exact ⟨HO.out, fun _ => rfl, fun J h => by rw [HF.out] at h; cases h⟩
   | some y =>
    obtain ⟨⟨ye, ys, yl, yp⟩, yi⟩ := y
    rw [hb] at HJk
    have HF : Hid (D.find = some ⟨ye, ys, yl, yp, yi, ys, 0⟩) := by show _ = _; rw [HFB.out, hb]; rfl
    simp only [Option.isSome_some]
    simp only [bestJ] at HJk
    have c2 := HJk.out.c2; have c6 := HJk.out.c6; have f6 := HJk.out.f 6
    clear hb hb2 hkn
    go_wp2
    go_ret
    refine ⟨HO.out.setCell (p := ⟨a, 6, none⟩) (fun _ => rfl) _, fun h => (by rw [HF.out] at h; cases h), fun J h => ?_⟩
    rw [HF.out] at h
    cases h
    exact ⟨rfl, HJk.out.put (J' := ⟨ye, ys, yl, yp, yi, ys, 0⟩) (i := 6) (by simp [JCells])⟩
end
end Go.Proofs.YthambopnmhkeeaaGreat
/- What Format answers and leaves behind, for every device and every length of a log. -/
set_option maxRecDepth 100000
namespace Go.Proofs.YthambopnmhkeeaaGreat
open Go.RowKit
open Fr (SlW OwnW flatI two_cells two_one own_pushW)
section
variable {S : Nat -> Prop} {w w' : World} {a p : Nat} {J : JS} {D : DevS}
def fmtK (k : Nat) : List (Int × ByteArray) := (List.range k).map fun i => (((i + 1 : Nat) : Int), noughts)
theorem fmtK_succ (k : Nat) : fmtK (k + 1) = fmtK k ++ [(((k + 1 : Nat) : Int), noughts)] := by unfold fmtK; rw [List.range_succ, List.map_append]; rfl
theorem fmtK_len (k : Nat) : (fmtK k).length = k := by simp [fmtK]
theorem fmtL_eq (log : Nat) : fmtL log = fmtK (log + 1) ++ [(0, slotB 1 1 log 0)] := rfl
set_option maxHeartbeats 2000000 in
theorem format_any (log : Int) (hd : Stands S w p D) (hp : D.pend.length <= 800000) :
  Calls Tryz.prog 69 #[.pointer (some ⟨p, 0, none⟩), .int .i64 log] w fun e w' => e = .returned (.int .i64 (D.fmt log).1) /\ Leaves S w w' p (D.fmt log).2 := by
 obtain ⟨i0, hi, hz0, hz1, hz2⟩ := info_parts Tryz.infoW
 have HZ2 := Lib.hid hz2; clear hz2
 have hnd := hd.ok.few
 have CBl := Lib.hid (blocks_any hd)
 have CFi := Lib.hid (fits_any (w := w) log D.disk.length hnd)
 have HD := Lib.hid hd; clear hd
 by_cases hf : 50 <= log /\ log <= (D.disk.length : Int) - 3
 ·rw [decide_eq_true hf] at CFi
  obtain ⟨n, rfl⟩ := Int.eq_ofNat_of_zero_le (show 0 <= log by omega)
  have HFm : Hid (D.fmt (n : Int) = D.stl (fmtK (n + 1) ++ [(0, slotB 1 1 n 0)])) := by
   show _ = _; unfold DevS.fmt; rw [if_neg (by omega), Int.toNat_natCast, fmtL_eq]
  have hn1 : n <= 4096 := by omega
  generalize D.disk.length = nd at *
  clear hf
  obtain ⟨NN, hNN⟩ : ∃ x, noughts = x := ⟨_, rfl⟩
  have CN : Hid (∀ W, Calls Tryz.prog 121 #[.int .i64 256] W fun e w' => e = .returned (.string NN) /\ Below W.heap.size W w') := fun W => by rw [<- hNN]; exact jnoughts_all W
  have HSu : Hid (∀ k, fmtK (k + 1) = fmtK k ++ [(((k + 1 : Nat) : Int), NN)]) := fun k => by rw [<- hNN]; exact fmtK_succ k
  clear hNN
  go_enter Tryz.func69, Tryz.ntmps69
  go_wp2_with fail
  refine CBl.out.mono ?_
  rintro e w1 ⟨rfl, rfl⟩
  go_wp2_with fail
  refine CFi.out.mono ?_
  rintro e w1 ⟨rfl, rfl⟩
  go_wp2_with fail
  go_loopw [5, 6] (fun wv i wr => ∃ k : Nat, k <= n + 1 /\ i = .int .i64 ((k + 1 : Nat) : Int) /\ Hid (OwnW w.heap.size wr wv (fmtK k)) /\ Hid (Below w.heap.size w wr)) (fun _ i _ => n + 2 - (intOf i).toNat)
  case atStart => exact ⟨0, Nat.zero_le _, rfl, OwnW.nil _ _, Below.refl _ _⟩
  case round =>
   obtain ⟨k, hk, rfl, HO, HB⟩ := hrel
   have hbr := HB.out.size
   by_cases hlt : k < n + 1
   ·have hlen : (fmtK k).length <= 4098 := by rw [fmtK_len]; omega
    have HSN := Lib.hid (HSu.out k)
    have i1 : (k : Int) + 1 < 2 + (n : Int) := by omega
    obtain ⟨M, hM⟩ : ∃ M, fmtK k = M := ⟨_, rfl⟩
    rw [hM] at HO HSN hlen
    clear hM
    obtain ⟨ao2, c2, hv, _⟩ := HO.out.sl
    subst hv
    have wk : IntKind.i64.wrap ((k : Int) + 1 + 1) = (k : Int) + 1 + 1 := IntWalk.i64_in _ (by omega)
    go_wp2_with fail
    refine (CN.out _).mono ?_
    rintro e w2 ⟨rfl, hb2⟩
    have HB2 := Lib.hid hb2; clear hb2
    have hbr2 := HB2.out.size
    go_wp2_with (at_builtin; go_loud (refine wpList_append_own _ rfl _ _ 49 rfl w.heap.size 63 i0 _ 2 24 Tryz.underlying49 hi hz0 hz1 HZ2.out rfl (by decide) _ _ _ rfl ((HO.out.below HB2.out).alloc _) _ 1 1 [.int .i64 ((k : Int) + 1), .string NN] rfl rfl (two_cells rfl) two_one ?c3 ?c4 ?c5 ?_))
    case c3 => unfold maxLen; omega
    case c4 => omega
    case c5 => simp; omega
    intro v1 w3 hown hgrow _
    have HO3 : Hid (OwnW w.heap.size w3 v1 (fmtK (k + 1))) := by
     show OwnW _ _ _ _
     rw [HSN.out]; exact own_pushW hown
    have HB3 : Hid (Below w.heap.size w w3) := ((HB.out.trans (HB2.out.mono hbr)).alloc (by omega) _).grown hgrow (by simp; omega) (fun q hq => (HO.out.lt q hq).1)
    clear hown hgrow HB2
    go_wp2
    go_roundw
    case rel => exact ⟨k + 1, by omega, by go_num, HO3, HB3⟩
    case measure => simp [intOf]; omega
   ·have hkn : k = n + 1 := by omega
    subst hkn
    have hlen : (fmtK (n + 1)).length <= 4098 := by rw [fmtK_len]; omega
    have i1 : ¬ ((n + 1 : Nat) : Int) + 1 < 2 + (n : Int) := by omega
    obtain ⟨ao2, c2, hv, _⟩ := HO.out.sl
    subst hv
    obtain ⟨M, hM⟩ : ∃ M, fmtK (n + 1) = M := ⟨_, rfl⟩
    rw [hM] at HO HFm hlen ⊢
    clear hM
    have CT : Hid (∀ W, Calls Tryz.prog 123 #[.agg #[.int .u64 1, .int .u64 1, .int .i64 (n : Int), .int .i64 0]] W fun r w' => r = .returned (.string (slotB 1 1 n 0)) /\ Below W.heap.size W w') := fun W => text_any 1 1 n 0 W (by omega) (by omega) hn1 (by omega)
    generalize slotB 1 1 n 0 = tt at *
    obtain ⟨Y, hY⟩ : ∃ Y, (wr.alloc (.cells #[.int .u64 1, .int .u64 1, .int .i64 (n : Int), .int .i64 0] 102)).alloc (.cells #[.pointer (some ⟨p, 0, none⟩), .int .u64 0, .int .u64 0, .int .i64 0, .int .i64 0, .int .i64 0, .int .u64 0, .int .i64 0] 104) = Y := ⟨_, rfl⟩
    have hYb : Below wr.heap.size wr Y := by rw [<- hY]; exact ((Below.refl _ _).alloc (Nat.le_refl _) _).alloc (by simp) _
    have hYj : Jr 104 Y (wr.heap.size + 1) p ⟨0, 0, 0, 0, 0, 0, 0⟩ := by
     have e : (wr.alloc (.cells #[.int .u64 1, .int .u64 1, .int .i64 (n : Int), .int .i64 0] 102)).heap.size = wr.heap.size + 1 := by simp
     unfold Jr; rw [<- hY, <- e]; exact heap_alloc_new ..
    have hYz := hYj.lt
    have HY := Lib.hid hY; have HYb := Lib.hid hYb; have HYj := Lib.hid hYj
    clear hY hYb hYj
    go_wp2_with fail
    rw [HY.out]
    refine (CT.out _).mono ?_
    rintro e w2 ⟨rfl, hb2⟩
    have HB2 : Hid (Below wr.heap.size wr w2) := HYb.out.trans (hb2.mono HYb.out.size)
    have HJ2 := Lib.hid (HYj.out.below hb2)
    have hz2 := hb2.size
    clear hb2
    have hbr2 := HB2.out.size
    go_wp2_with (at_builtin; go_loud (refine wpList_append_own _ rfl _ _ 49 rfl w.heap.size 63 i0 _ 2 24 Tryz.underlying49 hi hz0 hz1 HZ2.out rfl (by decide) _ _ _ rfl ((HO.out.below HB2.out).alloc _) _ 1 1 [.int .i64 0, .string tt] rfl rfl (two_cells rfl) two_one ?c3 ?c4 ?c5 ?_))
    case c3 => unfold maxLen; omega
    case c4 => omega
    case c5 => simp; omega
    intro v1 w3 hown hgrow _
    have hO3 := own_pushW hown
    have HB3 : Hid (Below w.heap.size w w3) := ((HB.out.trans (HB2.out.mono hbr)).alloc (by omega) _).grown hgrow (by simp; omega) (fun q hq => (HO.out.lt q hq).1)
    have HJ3 : Hid (Jr 104 w3 (wr.heap.size + 1) p ⟨0, 0, 0, 0, 0, 0, 0⟩) := by
     show Jr _ _ _ _ _
     have h1 : Jr 104 (w2.alloc (.cells #[.int .i64 0, .string tt] 63)) (wr.heap.size + 1) p ⟨0, 0, 0, 0, 0, 0, 0⟩ := HJ2.out.below ((Below.refl _ _).alloc (Nat.le_refl _) _)
     unfold Jr
     rw [hgrow.block _ h1.lt (fun e => by have := (HO.out.lt _ e.symm).2; omega)]
     exact h1
    have hl2 : (M ++ [((0 : Int), tt)]).length <= 5000 := by simp; omega
    obtain ⟨M2, hM2⟩ : ∃ M2, M ++ [((0 : Int), tt)] = M2 := ⟨_, rfl⟩
    rw [hM2] at hO3 HFm hl2
    have HO3 := Lib.hid hO3
    clear hown hgrow hO3 HB2 HJ2 hM2
    have hna : ¬ S (wr.heap.size + 1) := fun h => by have := HD.out.lt _ h; omega
    have hSO : Outs S v1 := by
     intro g off' n' c' hv hg
     have h1 := (HO3.out.lt g (by rw [hv]; rfl)).1
     have h2 := HD.out.lt g hg
     omega
    have CS := Lib.hid (jsettle_any (L := M2) HJ3.out (HD.out.below HB3.out) hna (by omega) (by omega) HO3.out.sl hSO)
    obtain ⟨ao3, c3, hv3, _⟩ := HO3.out.sl
    subst hv3
    clear hSO HO3 hna
    go_wp2_with fail
    refine CS.out.mono ?_
    rintro e w4 ⟨rfl, hv4⟩
    have HV := Lib.hid (Leaves.from HB3.out hv4); clear hv4
    go_wp2
    go_ret
    exact ⟨by rw [HFm.out]; rfl, by rw [HFm.out]; exact HV.out⟩
 ·have HFm : Hid (D.fmt log = (2, D)) := by show _ = _; unfold DevS.fmt; rw [if_pos (by omega)]
  rw [decide_eq_false hf] at CFi
  generalize D.disk.length = nd at *
  clear hf
  go_enter Tryz.func69, Tryz.ntmps69
  go_wp2_with fail
  refine CBl.out.mono ?_
  rintro e w1 ⟨rfl, rfl⟩
  go_wp2_with fail
  refine CFi.out.mono ?_
  rintro e w1 ⟨rfl, rfl⟩
  go_wp2
  go_ret
  exact ⟨by rw [HFm.out]; rfl, by rw [HFm.out]; exact .mk HD.out (Only.refl _ _)⟩
end
end Go.Proofs.YthambopnmhkeeaaGreat

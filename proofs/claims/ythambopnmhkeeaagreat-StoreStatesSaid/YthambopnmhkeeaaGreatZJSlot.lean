/- What noughts, wide, toWide, a slot's text and readSlot answer. -/
import Derived.Test.YthambopnmhkeeaaGreatZJBase
import Derived.Test.YthambopnmhkeeaaGreatZFBase
import Derived.Test.YthambopnmhkeeaaGreatZFHeadR
import Derived.Handy
import Derived.BigRegion
import Derived.Deep.RegionLaw
import Derived.Deep.LoopGhost
import Derived.Lib.MinMax
import Derived.BigQuiet
import Derived.Deep.QuietTactic

namespace Go.Proofs.YthambopnmhkeeaaGreat
open Go.RowKit
open Fr (bs fixL nmAt fix_name fixed_to bs_append bs_len toFixed_at or64 nmAt_lt bs_data str_len bs_ext)

theorem noughts_bs : noughts = bs (List.replicate 256 0) := by
  unfold noughts bs; rw [Fr.repeat_zero]

set_option maxRecDepth 100000 in
set_option maxHeartbeats 400000 in
theorem jnoughts_to (x : Int) (T : ByteArray) (w : World) (C : Hid (Calls Tryz.prog 66 #[.string ⟨#[0]⟩, .int .i64 x] w fun e w' => e = .returned (.string T) /\ Below w.heap.size w w')) :
    Calls Tryz.prog 121 #[.int .i64 x] w fun e w' => e = .returned (.string T) /\ Below w.heap.size w w' := by
  go_enter Tryz.func121, Tryz.ntmps121
  go_wp2_with fail
  refine C.out.mono ?_
  rintro e w1 ⟨rfl, hb⟩
  have HB := Lib.hid hb; clear hb
  go_wp2
  go_ret
  exact ⟨rfl, HB.out⟩
theorem jnoughts_any (x : Int) (c : Nat) (w : World) (h : x = (c : Int)) (h2 : 2 <= c) (hc : c <= 1000) :
    Calls Tryz.prog 121 #[.int .i64 x] w fun e w' => e = .returned (.string (bs (List.replicate c 0))) /\ Below w.heap.size w w' :=
  jnoughts_to x _ w (Fr.noughts_any x c w h h2 hc)
theorem jnoughts_all (w : World) : Calls Tryz.prog 121 #[.int .i64 256] w fun e w' => e = .returned (.string noughts) /\ Below w.heap.size w w' := by
  rw [noughts_bs]; exact jnoughts_any 256 256 w rfl (by omega) (by omega)

def wideL (v : Nat) : List UInt8 := fixL (v % 4294967296) ++ fixL (v / 4294967296)
set_option maxRecDepth 100000 in
set_option maxHeartbeats 400000 in
theorem wide_any (v : Nat) (t : ByteArray) (w : World) (hv : v < 18446744073709551616) (ht : Hid (bs (wideL v) = t)) :
    Calls Tryz.prog 171 #[.int .u64 (v : Int)] w fun e w' => e = .returned (.string t) /\ Below w.heap.size w w' := by
  obtain ⟨t1, z1, H1⟩ := fix_name (v % 4294967296)
  obtain ⟨t2, z2, H2⟩ := fix_name (v / 4294967296)
  have HT : Hid (t1 ++ t2 = t) := by show _ = _; rw [<- ht.out, <- H1.out, <- H2.out, bs_append]; rfl
  clear ht
  go_enter Tryz.func171, Tryz.ntmps171
  go_wp2_with fail
  refine (fixed_to _ _ _ _ (by omega) (by omega) H1).mono ?_
  rintro e w2 ⟨rfl, hb2⟩
  have HB2 := Lib.hid hb2; clear hb2
  go_wp2_with fail
  refine (fixed_to _ _ _ _ (by omega) (by omega) H2).mono ?_
  rintro e w3 ⟨rfl, hb3⟩
  have HB3 : Hid (Below w.heap.size w w3) := HB2.out.trans (hb3.mono HB2.out.size)
  clear hb3 HB2
  go_wp2
  go_ret
  exact ⟨by rw [HT.out]; rfl, HB3.out⟩

set_option maxRecDepth 100000 in
set_option maxHeartbeats 400000 in
theorem toWide_any (l : List UInt8) (k : Nat) (T T2 : ByteArray) (w : World) (hl : k + 8 <= l.length) (hm : l.length <= 1000) (h1 : T = bs (l.drop k)) (h2 : T2 = bs (l.drop (k + 8))) :
    Calls Tryz.prog 203 #[.string T] w fun e w' => e = .returned (.tuple #[.int .u64 ((wideAt l k : Nat) : Int), .string T2]) /\ Below w.heap.size w w' := by
  obtain ⟨T3, HT3⟩ : ∃ T3, Hid (T3 = bs (l.drop (k + 4))) := ⟨_, rfl⟩
  have h2' : T2 = bs (l.drop (k + 4 + 4)) := by rw [h2]
  have F1 := Lib.hid (fun W => toFixed_at W h1 HT3.out (by omega) (by omega))
  have F2 := Lib.hid (fun W => toFixed_at W HT3.out h2' (by omega) (by omega))
  have x1 := nmAt_lt l k
  have x2 := nmAt_lt l (k + 4)
  have HW : Hid (bits .or .u64 ((nmAt l (k + 4) : Int) * 4294967296) (nmAt l k : Int) = (wideAt l k : Int)) := or64 _ _ x2 x1
  clear h1 h2 h2'
  generalize wideAt l k = wd at *
  generalize nmAt l k = lo at *
  generalize nmAt l (k + 4) = hi at *
  go_enter Tryz.func203, Tryz.ntmps203
  go_wp2_with fail
  refine (F1.out _).mono ?_
  rintro e w2 ⟨rfl, hb2⟩
  have HB2 := Lib.hid hb2; clear hb2
  go_wp2_with fail
  refine (F2.out _).mono ?_
  rintro e w3 ⟨rfl, hb3⟩
  have HB3 : Hid (Below w.heap.size w w3) := HB2.out.trans (hb3.mono HB2.out.size)
  clear hb3 HB2
  go_wp2
  go_ret2
  exact ⟨by rw [<- HW.out]; rfl, HB3.out⟩

theorem held_four {w0 W W' : World} {g : Nat} {v0 v1 v2 v3 : Value} (hg : g < w0.heap.size) (h : Below w0.heap.size w0 W /\ W.cell? ⟨g, 0, none⟩ = some v0 /\ W.cell? ⟨g, 1, none⟩ = some v1 /\ W.cell? ⟨g, 2, none⟩ = some v2 /\ W.cell? ⟨g, 3, none⟩ = some v3) (hb : Below W.heap.size W W') :
    Below w0.heap.size w0 W' /\ W'.cell? ⟨g, 0, none⟩ = some v0 /\ W'.cell? ⟨g, 1, none⟩ = some v1 /\ W'.cell? ⟨g, 2, none⟩ = some v2 /\ W'.cell? ⟨g, 3, none⟩ = some v3 := by
  have hl : g < W.heap.size := Nat.lt_of_lt_of_le hg h.1.size
  exact ⟨h.1.trans (hb.mono h.1.size), (hb.cell (p := ⟨g, 0, none⟩) hl).trans h.2.1, (hb.cell (p := ⟨g, 1, none⟩) hl).trans h.2.2.1, (hb.cell (p := ⟨g, 2, none⟩) hl).trans h.2.2.2.1, (hb.cell (p := ⟨g, 3, none⟩) hl).trans h.2.2.2.2⟩
theorem u32_in (x : Int) (h : 0 <= x /\ x < 4294967296) : IntKind.u32.wrap x = x := by
  simp [IntKind.wrap, IntKind.bits, IntKind.signed]; omega
theorem half_parts (e s log p : Nat) : halfL e s log p = [67, 68, 88, 83] ++ wideL e ++ wideL s ++ fixL log ++ fixL p ++ List.replicate 100 0 := by
  unfold halfL wideL; simp only [List.append_assoc]

set_option maxRecDepth 100000 in
set_option maxHeartbeats 1000000 in
theorem text_any (e s log p : Nat) (w : World) (he : e < 18446744073709551616) (hs : s < 18446744073709551616) (hl : log <= 4096) (hp : p <= 4096) :
    Calls Tryz.prog 123 #[.agg #[.int .u64 (e : Int), .int .u64 (s : Int), .int .i64 (log : Int), .int .i64 (p : Int)]] w fun r w' => r = .returned (.string (slotB e s log p)) /\ Below w.heap.size w w' := by
  obtain ⟨WT, hWT⟩ : ∃ f : Nat -> ByteArray, f = fun v => bs (wideL v) := ⟨_, rfl⟩
  obtain ⟨FT, hFT⟩ : ∃ f : Int -> ByteArray, f = fun v => bs (fixL v.toNat) := ⟨_, rfl⟩
  have z1 : (WT e).size <= 8 := by rw [hWT]; exact Nat.le_refl _
  have z2 : (WT s).size <= 8 := by rw [hWT]; exact Nat.le_refl _
  have z3 : (FT (log : Int)).size <= 4 := by rw [hFT]; exact Nat.le_refl _
  have z4 : (FT (p : Int)).size <= 4 := by rw [hFT]; exact Nat.le_refl _
  have CW : Hid (∀ (v : Nat) (W : World), v < 18446744073709551616 -> Calls Tryz.prog 171 #[.int .u64 (v : Int)] W fun r w' => r = .returned (.string (WT v)) /\ Below W.heap.size W w') := fun v W hv => wide_any v _ W hv (by rw [hWT]; rfl)
  have CF : Hid (∀ (x : Int) (W : World), 0 <= x -> x < 4294967296 -> Calls Tryz.prog 135 #[.int .u32 x] W fun r w' => r = .returned (.string (FT x)) /\ Below W.heap.size W w') := fun x W h0 h1 => fixed_to x x.toNat _ W (by omega) (by omega) (by rw [hFT]; rfl)
  obtain ⟨X, hX⟩ : ∃ X, ⟨#[67, 68, 88, 83]⟩ ++ WT e ++ WT s ++ FT (log : Int) ++ FT (p : Int) = X := ⟨_, rfl⟩
  have hXe : X = bs ([67, 68, 88, 83] ++ wideL e ++ wideL s ++ fixL log ++ fixL p) := by
    rw [<- hX, hWT, hFT]
    show ((((bs [67, 68, 88, 83] ++ bs (wideL e)) ++ bs (wideL s)) ++ bs (fixL log)) ++ bs (fixL p)) = _
    rw [bs_append, bs_append, bs_append, bs_append]
  have zX : X.size = 28 := by rw [hXe, bs_len]; rfl
  obtain ⟨Z, hZ⟩ : ∃ Z, bs (List.replicate 100 0) = Z := ⟨_, rfl⟩
  clear hWT hFT
  have CN := Lib.hid (fun W => jnoughts_any (128 - (X.size : Int)) 100 W (by omega) (by omega) (by omega))
  rw [hZ] at CN
  have zZ : Z.size <= 100 := by rw [<- hZ, bs_len, List.length_replicate]; exact Nat.le_refl _
  have HF : Hid ((X ++ Z) ++ (X ++ Z) = slotB e s log p) := by
    show _ = _
    unfold slotB
    rw [half_parts, hXe, <- hZ, bs_append, bs_append]
  have z0 : X.size <= 28 := by omega
  have z0' : 28 <= X.size := by omega
  clear hXe zX hZ
  obtain ⟨w0, hw0⟩ : ∃ w0, w.alloc (.cells #[.int .u64 (e : Int), .int .u64 (s : Int), .int .i64 (log : Int), .int .i64 (p : Int)] 102) = w0 := ⟨_, rfl⟩
  have hb0 : w0.heap[w.heap.size]? = some (.cells #[.int .u64 (e : Int), .int .u64 (s : Int), .int .i64 (log : Int), .int .i64 (p : Int)] 102 (0, 0)) := by rw [<- hw0, heap_alloc_new]
  have HB0 : Hid (Below w.heap.size w w0) := by rw [<- hw0]; exact (Below.refl _ _).alloc (Nat.le_refl _) _
  have c0 : w0.cell? ⟨w.heap.size, 0, none⟩ = some (.int .u64 (e : Int)) := by rw [cell_at hb0]; rfl
  have c1 : w0.cell? ⟨w.heap.size, 1, none⟩ = some (.int .u64 (s : Int)) := by rw [cell_at hb0]; rfl
  have c2 : w0.cell? ⟨w.heap.size, 2, none⟩ = some (.int .i64 (log : Int)) := by rw [cell_at hb0]; rfl
  have c3 : w0.cell? ⟨w.heap.size, 3, none⟩ = some (.int .i64 (p : Int)) := by rw [cell_at hb0]; rfl
  have hlt : w.heap.size < w0.heap.size := (Array.getElem?_eq_some_iff.1 hb0).1
  clear hb0
  have HW0 := Lib.hid hw0; clear hw0
  have b1 : ¬ 9223372036854775807 < 4 + (WT e).size := by omega
  have b2 : ¬ 9223372036854775807 < 4 + (WT e).size + (WT s).size := by omega
  have b3 : ¬ 9223372036854775807 < 4 + (WT e).size + (WT s).size + (FT (log : Int)).size := by omega
  have b4 : ¬ 9223372036854775807 < 4 + (WT e).size + (WT s).size + (FT (log : Int)).size + (FT (p : Int)).size := by omega
  have wl : IntKind.u32.wrap (log : Int) = (log : Int) := u32_in _ (by omega)
  have wp : IntKind.u32.wrap (p : Int) = (p : Int) := u32_in _ (by omega)
  go_enter Tryz.func123, Tryz.ntmps123
  go_wp2_with fail
  rw [HW0.out]
  go_region_held3 (fun W => Below w0.heap.size w0 W /\ W.cell? ⟨w.heap.size, 0, none⟩ = some (.int .u64 (e : Int)) /\ W.cell? ⟨w.heap.size, 1, none⟩ = some (.int .u64 (s : Int)) /\ W.cell? ⟨w.heap.size, 2, none⟩ = some (.int .i64 (log : Int)) /\ W.cell? ⟨w.heap.size, 3, none⟩ = some (.int .i64 (p : Int)))
    (first | exact ⟨(Below.refl _ _).drew, c0, c1, c2, c3⟩ | exact held_four hlt (by assumption) (by assumption) | exact held_four hlt (by assumption) (Below.refl _ _))
    (first
      | (go_at_call 171; refine (CW.out _ _ ?_).mono ?_; (first | exact he | exact hs); rintro r w' ⟨rfl, hbx⟩)
      | (go_at_call 135; refine (CF.out _ _ ?_ ?_).mono ?_; omega; omega; rintro r w' ⟨rfl, hbx⟩))
  rename_i hHeld
  have HB1 : Hid (Below w.heap.size w w') := HB0.out.trans (hHeld.1.mono (Nat.le_of_lt hlt))
  clear hHeld hbx b1 b2 b3 b4 wl wp c0 c1 c2 c3
  go_wp2_with fail
  refine (CN.out _).mono ?_
  rintro r w2 ⟨rfl, hb2⟩
  have HB2 : Hid (Below w.heap.size w w2) := HB1.out.trans (hb2.mono HB1.out.size)
  clear hb2 HB1
  go_wp2
  go_ret
  exact ⟨by rw [<- HF.out]; rfl, HB2.out⟩

theorem rdSlot_iff (t : ByteArray) (n : Nat) (x : Nat × Nat × Nat × Nat) : rdSlot t n = some x ↔ (50 <= nmAt t.data.toList 20 /\ nmAt t.data.toList 20 + 3 <= n /\ nmAt t.data.toList 24 < nmAt t.data.toList 20 /\ t = slotB (wideAt t.data.toList 4) (wideAt t.data.toList 12) (nmAt t.data.toList 20) (nmAt t.data.toList 24)) /\ x = (wideAt t.data.toList 4, wideAt t.data.toList 12, nmAt t.data.toList 20, nmAt t.data.toList 24) := by
  unfold rdSlot
  show (if _ then _ else _) = _ ↔ _
  split
  . rename_i h; simp only [Option.some.injEq]; exact ⟨fun e => ⟨h, e.symm⟩, fun e => e.2.symm⟩
  . rename_i h; exact ⟨fun e => (by cases e), fun e => absurd e.1 h⟩
theorem wideAt_lt (l : List UInt8) (i : Nat) : wideAt l i < 18446744073709551616 := by
  have h1 := nmAt_lt l i; have h2 := nmAt_lt l (i + 4); unfold wideAt; omega
def slotV (x : Option (Nat × Nat × Nat × Nat)) : Value := match x with
  | none => .tuple #[.agg #[.int .u64 0, .int .u64 0, .int .i64 0, .int .i64 0], .bool false]
  | some x => .tuple #[.agg #[.int .u64 (x.1 : Int), .int .u64 (x.2.1 : Int), .int .i64 (x.2.2.1 : Int), .int .i64 (x.2.2.2 : Int)], .bool true]

theorem results_slot (tmps : Array Value) (g : Nat) (Y : World) (b : Bool) (x0 x1 x2 x3 : Int) (h4 : tmps.getD 4 undef = .pointer (some ⟨g, 0, none⟩)) (h5 : tmps.getD 5 undef = .bool b)
    (hY : Y.heap[g]? = some (.cells #[.int .u64 x0, .int .u64 x1, .int .i64 x2, .int .i64 x3] 102 (0, 0))) :
    (results Tryz.f172 tmps).run Tryz.prog Y = .ok (.tuple #[.agg #[.int .u64 x0, .int .u64 x1, .int .i64 x2, .int .i64 x3], .bool b]) Y := by
  have y0 : Y.cell? ⟨g, 0, none⟩ = some (.int .u64 x0) := by rw [cell_at hY]; rfl
  have y1 : Y.cell? ⟨g, 1, none⟩ = some (.int .u64 x1) := by rw [cell_at hY]; rfl
  have y2 : Y.cell? ⟨g, 2, none⟩ = some (.int .i64 x2) := by rw [cell_at hY]; rfl
  have y3 : Y.cell? ⟨g, 3, none⟩ = some (.int .i64 x3) := by rw [cell_at hY]; rfl
  rw [Array.getD_eq_getD_getElem?] at h4 h5
  simp [results, Tryz.results172, go_sem, h4, h5, y0, y1, y2, y3]

set_option maxRecDepth 100000 in
set_option maxHeartbeats 2000000 in
theorem readSlot_any (t : ByteArray) (n : Nat) (w : World) (ht : t.size = 256) (hn : n <= 4096) :
    Calls Tryz.prog 172 #[.string t, .int .i64 (n : Int)] w fun r w' => r = .returned (slotV (rdSlot t n)) /\ Below w.heap.size w w' := by
  obtain ⟨l, hl⟩ : ∃ l, t.data.toList = l := ⟨_, rfl⟩
  have hll : l.length = 256 := by rw [<- hl, str_len, ht]
  have HI := Lib.hid (rdSlot_iff t n)
  rw [hl] at HI
  obtain ⟨T1, hT1⟩ : ∃ T, t.extract 4 t.size = T := ⟨_, rfl⟩
  have h1 : T1 = bs (l.drop 4) := by rw [<- hT1, Fr.ext_eq t l hl]
  obtain ⟨T2, h2⟩ : ∃ T2, T2 = bs (l.drop 12) := ⟨_, rfl⟩
  obtain ⟨T3, h3⟩ : ∃ T3, T3 = bs (l.drop 20) := ⟨_, rfl⟩
  obtain ⟨T4, h4⟩ : ∃ T4, T4 = bs (l.drop 24) := ⟨_, rfl⟩
  obtain ⟨T5, h5⟩ : ∃ T5, T5 = bs (l.drop 28) := ⟨_, rfl⟩
  have F1 := Lib.hid (fun W => toWide_any l 4 T1 T2 W (by omega) (by omega) h1 h2)
  have F2 := Lib.hid (fun W => toWide_any l 12 T2 T3 W (by omega) (by omega) h2 h3)
  have F3 := Lib.hid (fun W => toFixed_at (k := 20) W h3 h4 (by omega) (by omega))
  have F4 := Lib.hid (fun W => toFixed_at (k := 24) W h4 h5 (by omega) (by omega))
  have x4 := wideAt_lt l 4; have x12 := wideAt_lt l 12; have x20 := nmAt_lt l 20; have x24 := nmAt_lt l 24
  clear h1 h2 h3 h4 h5 hl hll
  generalize wideAt l 4 = e at *
  generalize wideAt l 12 = s at *
  generalize nmAt l 20 = log at *
  generalize nmAt l 24 = p at *
  have i4 : (4 : Int) <= (t.size : Int) := by omega
  have CF := Lib.hid (fun W => fits_any (w := W) (log : Int) n hn)
  have CT := Lib.hid (fun W (h : log <= 4096) (h2 : p <= 4096) => text_any e s log p W x4 x12 h h2)
  clear ht
  obtain ⟨A0, hA0⟩ : ∃ A0, w.alloc (.cells #[.int .u64 0, .int .u64 0, .int .i64 0, .int .i64 0] 102) = A0 := ⟨_, rfl⟩
  have hr0 : A0.heap[w.heap.size]? = some (.cells #[.int .u64 0, .int .u64 0, .int .i64 0, .int .i64 0] 102 (0, 0)) := by rw [<- hA0, heap_alloc_new]
  have HB0 : Hid (Below w.heap.size w A0) := by rw [<- hA0]; exact (Below.refl _ _).alloc (Nat.le_refl _) _
  have hz0 : w.heap.size < A0.heap.size := (Array.getElem?_eq_some_iff.1 hr0).1
  have HR0 := Lib.hid hr0; clear hr0
  have HA0 := Lib.hid hA0; clear hA0
  go_enter Tryz.func172, Tryz.ntmps172
  go_wp2_with fail
  rw [HA0.out]
  refine (F1.out _).mono ?_
  rintro r w1 ⟨rfl, hb1⟩
  have HB1 := Lib.hid hb1; clear hb1
  go_wp2_with fail
  refine (F2.out _).mono ?_
  rintro r w2 ⟨rfl, hb2⟩
  have HB2 := Lib.hid (HB1.out.trans (hb2.mono HB1.out.size)); clear hb2 HB1
  go_wp2_with fail
  refine (F3.out _).mono ?_
  rintro r w3 ⟨rfl, hb3⟩
  have HB3 := Lib.hid (HB2.out.trans (hb3.mono HB2.out.size)); clear hb3 HB2
  go_wp2_with fail
  refine (F4.out _).mono ?_
  rintro r w4 ⟨rfl, hb4⟩
  have HB4 := Lib.hid (HB3.out.trans (hb4.mono HB3.out.size)); clear hb4 HB3
  have hz4 := HB4.out.size
  obtain ⟨X, hX⟩ : ∃ X, w4.alloc (.cells #[.int .u64 (e : Int), .int .u64 (s : Int), .int .i64 (log : Int), .int .i64 (p : Int)] 102) = X := ⟨_, rfl⟩
  have hXh : X.heap[w4.heap.size]? = some (.cells #[.int .u64 (e : Int), .int .u64 (s : Int), .int .i64 (log : Int), .int .i64 (p : Int)] 102 (0, 0)) := by rw [<- hX, heap_alloc_new]
  have HXB : Hid (Below A0.heap.size A0 X) := by rw [<- hX]; exact HB4.out.alloc hz4 _
  have k0 : X.cell? ⟨w4.heap.size, 0, none⟩ = some (.int .u64 (e : Int)) := by rw [cell_at hXh]; rfl
  have k1 : X.cell? ⟨w4.heap.size, 1, none⟩ = some (.int .u64 (s : Int)) := by rw [cell_at hXh]; rfl
  have k2 : X.cell? ⟨w4.heap.size, 2, none⟩ = some (.int .i64 (log : Int)) := by rw [cell_at hXh]; rfl
  have k3 : X.cell? ⟨w4.heap.size, 3, none⟩ = some (.int .i64 (p : Int)) := by rw [cell_at hXh]; rfl
  have hzX : w4.heap.size < X.heap.size := (Array.getElem?_eq_some_iff.1 hXh).1
  have hrX := (HXB.out.block _ hz0).trans HR0.out
  have r0 : X.cell? ⟨w.heap.size, 0, none⟩ = some (.int .u64 0) := by rw [cell_at hrX]; rfl
  have r1 : X.cell? ⟨w.heap.size, 1, none⟩ = some (.int .u64 0) := by rw [cell_at hrX]; rfl
  have r2 : X.cell? ⟨w.heap.size, 2, none⟩ = some (.int .i64 0) := by rw [cell_at hrX]; rfl
  have r3 : X.cell? ⟨w.heap.size, 3, none⟩ = some (.int .i64 0) := by rw [cell_at hrX]; rfl
  have q0 : X.frozen? ⟨w.heap.size, 0, none⟩ = false := free_at hrX 0
  have q1 : X.frozen? ⟨w.heap.size, 1, none⟩ = false := free_at hrX 1
  have q2 : X.frozen? ⟨w.heap.size, 2, none⟩ = false := free_at hrX 2
  have q3 : X.frozen? ⟨w.heap.size, 3, none⟩ = false := free_at hrX 3
  have HWX : Hid (Below w.heap.size w X) := HB0.out.trans (HXB.out.mono (Nat.le_of_lt hz0))
  have HRX := Lib.hid hrX
  clear hXh hrX
  have HX := Lib.hid hX; clear hX
  have fin : Hid (∀ (X5 : World) (x0 x1 x2 x3 : Int) (b : Bool) (tmps : Array Value), Below X.heap.size X X5 -> tmps.getD 4 undef = .pointer (some ⟨w.heap.size, 0, none⟩) -> tmps.getD 5 undef = .bool b ->
      (rdSlot t n = none /\ x0 = 0 /\ x1 = 0 /\ x2 = 0 /\ x3 = 0 /\ b = false) \/ (rdSlot t n = some (e, s, log, p) /\ x0 = (e : Int) /\ x1 = (s : Int) /\ x2 = (log : Int) /\ x3 = (p : Int) /\ b = true) ->
      bodyPost Tryz.prog Tryz.f172 (fun r w' => r = .returned (slotV (rdSlot t n)) /\ Below w.heap.size w w') .ret ⟨tmps, []⟩ ((((X5.setCell ⟨w.heap.size, 0, none⟩ (.int .u64 x0)).setCell ⟨w.heap.size, 1, none⟩ (.int .u64 x1)).setCell ⟨w.heap.size, 2, none⟩ (.int .i64 x2)).setCell ⟨w.heap.size, 3, none⟩ (.int .i64 x3))) := by
    intro X5 x0 x1 x2 x3 b tmps h5 ht4 ht5 hc
    have h0 := (h5.block _ (Nat.lt_of_lt_of_le hz0 HXB.out.size)).trans HRX.out
    have h4 := heap_setCell_at (i := 3) (heap_setCell_at (i := 2) (heap_setCell_at (i := 1) (heap_setCell_at (i := 0) h0 (.int .u64 x0)) (.int .u64 x1)) (.int .i64 x2)) (.int .i64 x3)
    refine bodyPost_ret (results_slot tmps w.heap.size _ b x0 x1 x2 x3 ht4 ht5 h4) rfl ⟨?_, ((((HWX.out.trans (h5.mono HWX.out.size)).setCell (Nat.le_refl _) _).setCell (Nat.le_refl _) _).setCell (Nat.le_refl _) _).setCell (Nat.le_refl _) _⟩
    rcases hc with ⟨hr, rfl, rfl, rfl, rfl, rfl⟩ | ⟨hr, rfl, rfl, rfl, rfl, rfl⟩
    . rw [hr]; rfl
    . rw [hr]; rfl
  by_cases hf : 50 <= (log : Int) /\ (log : Int) <= (n : Int) - 3
  . have hd : decide (50 <= (log : Int) /\ (log : Int) <= (n : Int) - 3) = true := decide_eq_true hf
    rw [hd] at CF
    by_cases hpl : p < log
    . have hpl' : ¬ (log : Int) <= (p : Int) := by omega
      have CT2 := Lib.hid (fun W => CT.out W (by omega) (by omega))
      have hzw : w.heap.size < X.heap.size := Nat.lt_of_lt_of_le hz0 HXB.out.size
      by_cases hte : t = slotB e s log p
      . have HR : Hid (rdSlot t n = some (e, s, log, p)) := (HI.out _).2 ⟨⟨by omega, by omega, hpl, hte⟩, rfl⟩
        have hcmp2 : (!((slotB e s log p).toList == t.toList)) = false := by rw [Fr.str_same hte.symm]; rfl
        generalize slotB e s log p = tt at *
        clear hte hd HI CT
        go_wp2_with fail
        rw [HX.out]
        refine (CF.out _).mono ?_
        rintro r w5 ⟨rfl, rfl⟩
        go_wp2_with fail
        refine (CT2.out _).mono ?_
        rintro r w6 ⟨rfl, hb6⟩
        have HB6 := Lib.hid hb6; clear hb6
        have k0' := (HB6.out.cell (p := ⟨w4.heap.size, 0, none⟩) hzX).trans k0
        have k1' := (HB6.out.cell (p := ⟨w4.heap.size, 1, none⟩) hzX).trans k1
        have k2' := (HB6.out.cell (p := ⟨w4.heap.size, 2, none⟩) hzX).trans k2
        have k3' := (HB6.out.cell (p := ⟨w4.heap.size, 3, none⟩) hzX).trans k3
        have r0' := (HB6.out.cell (p := ⟨w.heap.size, 0, none⟩) hzw).trans r0
        have r1' := (HB6.out.cell (p := ⟨w.heap.size, 1, none⟩) hzw).trans r1
        have r2' := (HB6.out.cell (p := ⟨w.heap.size, 2, none⟩) hzw).trans r2
        have r3' := (HB6.out.cell (p := ⟨w.heap.size, 3, none⟩) hzw).trans r3
        have q0' := (HB6.out.frozen (p := ⟨w.heap.size, 0, none⟩) hzw).trans q0
        have q1' := (HB6.out.frozen (p := ⟨w.heap.size, 1, none⟩) hzw).trans q1
        have q2' := (HB6.out.frozen (p := ⟨w.heap.size, 2, none⟩) hzw).trans q2
        have q3' := (HB6.out.frozen (p := ⟨w.heap.size, 3, none⟩) hzw).trans q3
        clear k0 k1 k2 k3 r0 r1 r2 r3 q0 q1 q2 q3
        go_wp2
        exact fin.out _ _ _ _ _ _ _ HB6.out rfl rfl (.inr ⟨HR.out, rfl, rfl, rfl, rfl, rfl⟩)
      . have HR : Hid (rdSlot t n = none) := by
          cases h : rdSlot t n with
          | none => rfl
          | some x => exact absurd ((HI.out _).1 h).1.2.2.2 hte
        have hcmp2 : (!((slotB e s log p).toList == t.toList)) = true := by rw [Fr.str_diff (fun h => hte h.symm)]; rfl
        generalize slotB e s log p = tt at *
        clear hte hd HI CT
        go_wp2_with fail
        rw [HX.out]
        refine (CF.out _).mono ?_
        rintro r w5 ⟨rfl, rfl⟩
        go_wp2_with fail
        refine (CT2.out _).mono ?_
        rintro r w6 ⟨rfl, hb6⟩
        have HB6 := Lib.hid hb6; clear hb6
        have r0' := (HB6.out.cell (p := ⟨w.heap.size, 0, none⟩) hzw).trans r0
        have r1' := (HB6.out.cell (p := ⟨w.heap.size, 1, none⟩) hzw).trans r1
        have r2' := (HB6.out.cell (p := ⟨w.heap.size, 2, none⟩) hzw).trans r2
        have r3' := (HB6.out.cell (p := ⟨w.heap.size, 3, none⟩) hzw).trans r3
        have q0' := (HB6.out.frozen (p := ⟨w.heap.size, 0, none⟩) hzw).trans q0
        have q1' := (HB6.out.frozen (p := ⟨w.heap.size, 1, none⟩) hzw).trans q1
        have q2' := (HB6.out.frozen (p := ⟨w.heap.size, 2, none⟩) hzw).trans q2
        have q3' := (HB6.out.frozen (p := ⟨w.heap.size, 3, none⟩) hzw).trans q3
        clear k0 k1 k2 k3 r0 r1 r2 r3 q0 q1 q2 q3
        go_wp2
        exact fin.out _ _ _ _ _ _ _ HB6.out rfl rfl (.inl ⟨HR.out, rfl, rfl, rfl, rfl, rfl⟩)
    . have HR : Hid (rdSlot t n = none) := by
        cases h : rdSlot t n with
        | none => rfl
        | some x => exact absurd ((HI.out _).1 h).1.2.2.1 hpl
      have hpl' : (log : Int) <= (p : Int) := by omega
      clear hd HI CT
      go_wp2_with fail
      rw [HX.out]
      refine (CF.out _).mono ?_
      rintro r w5 ⟨rfl, rfl⟩
      go_wp2
      exact fin.out _ _ _ _ _ _ _ (Below.refl _ _) rfl rfl (.inl ⟨HR.out, rfl, rfl, rfl, rfl, rfl⟩)
  . have HR : Hid (rdSlot t n = none) := by
      cases h : rdSlot t n with
      | none => rfl
      | some x => exact absurd ((HI.out _).1 h).1 (fun h2 => hf (by omega))
    have hd : decide (50 <= (log : Int) /\ (log : Int) <= (n : Int) - 3) = false := decide_eq_false hf
    rw [hd] at CF
    clear hd HI CT hf
    go_wp2_with fail
    rw [HX.out]
    refine (CF.out _).mono ?_
    rintro r w5 ⟨rfl, rfl⟩
    go_wp2
    exact fin.out _ _ _ _ _ _ _ (Below.refl _ _) rfl rfl (.inl ⟨HR.out, rfl, rfl, rfl, rfl, rfl⟩)
end Go.Proofs.YthambopnmhkeeaaGreat
/- What Checkpoint answers and leaves behind, for every journal over every device. -/
namespace Go.Proofs.YthambopnmhkeeaaGreat
open Go.RowKit
open Fr (SlW WritesAt)

section
variable {t : TypeId} {S S1 T : Nat -> Prop} {w w1 w2 w' : World} {a p : Nat} {J J1 J2 : JS} {D D1 D2 : DevS} {v : Value} {L : List (Int × ByteArray)}

def JLeaves (t : TypeId) (S : Nat -> Prop) (w w' : World) (a p : Nat) (D' : DevS) (J' : JS) : Prop :=
  ∃ S' : Nat -> Prop, (∀ k, S' k -> S k \/ w.heap.size <= k) /\ Stands S' w' p D' /\ Jr t w' a p J' /\ Only (fun k => S k \/ k = a) w w'
theorem JLeaves.of (h : Leaves S w w' p D1) (hj : Jr t w a p J) (ha : ¬ S a) : JLeaves t S w w' a p D1 J := by
  obtain ⟨S', hS', hs, ho⟩ := h
  exact ⟨S', hS', hs, hj.only ho ha, ho.mono (fun _ _ h => .inl h)⟩
theorem JLeaves.refl (hd : Stands S w p D) (hj : Jr t w a p J) : JLeaves t S w w a p D J := ⟨S, fun _ => .inl, hd, hj, Only.refl _ _⟩
theorem JLeaves.next (hS1 : ∀ k, S1 k -> S k \/ w.heap.size <= k) (ho : Only (fun k => S k \/ k = a) w w1) (h : JLeaves t S1 w1 w2 a p D2 J2) : JLeaves t S w w2 a p D2 J2 := by
  obtain ⟨S2, hS2, hs, hj, ho2⟩ := h
  refine ⟨S2, fun k hk => ?_, hs, hj, ho.trans ho2 (fun i hi h1 => ?_)⟩
  . rcases hS2 k hk with h | h
    . exact hS1 k h
    . exact .inr (Nat.le_trans ho.size h)
  . rcases h1 with h1 | h1
    . rcases hS1 i h1 with h | h
      . exact .inl h
      . omega
    . exact .inr h1
theorem JLeaves.below (h : JLeaves t S w w1 a p D1 J1) (hb : Below w1.heap.size w1 w2) : JLeaves t S w w2 a p D1 J1 := by
  obtain ⟨S2, hS2, hs, hj, ho2⟩ := h
  exact ⟨S2, hS2, hs.below hb, hj.below hb, ho2.trans (Only.of_below (fun _ => False) hb (Nat.le_refl _)) (fun _ _ f => f.elim)⟩
theorem JLeaves.from (hb : Below w.heap.size w w1) (h : JLeaves t S w1 w2 a p D2 J2) : JLeaves t S w w2 a p D2 J2 :=
  JLeaves.next (fun _ h => .inl h) (Only.of_below _ hb (Nat.le_refl _)) h

theorem one_write (w : World) (i : Int) (s : ByteArray) : SlW (w.alloc (.cells #[.int .i64 i, .string s] 63)) (.slice (some ⟨w.heap.size, 0, none⟩) 1 1) [(i, s)] := by
  refine ⟨_, 1, rfl, Nat.le_refl _, .inr ⟨w.heap.size, 0, rfl, by simp, fun j hj => ?_⟩⟩
  obtain rfl : j = 0 := by simpa using hj
  exact ⟨by rw [cell_at (heap_alloc_new ..)]; rfl, by rw [cell_at (heap_alloc_new ..)]; rfl⟩

theorem settle_one (i : Int) (s : ByteArray) (hj : Jr 104 w a p J) (hd : Stands S w p D) (ha : ¬ S a) (hp : D.pend.length <= 900000) :
    Calls Tryz.prog 122 #[.pointer (some ⟨a, 0, none⟩), .slice (some ⟨w.heap.size, 0, none⟩) 1 1] (w.alloc (.cells #[.int .i64 i, .string s] 63)) fun e w' => e = .returned (.int .i64 (D.stl [(i, s)]).1) /\ Leaves S w w' p (D.stl [(i, s)]).2 := by
  have hb : Below w.heap.size w (w.alloc (.cells #[.int .i64 i, .string s] 63)) := (Below.refl _ _).alloc (Nat.le_refl _) _
  refine (jsettle_any (hj.below hb) (hd.below hb) ha (by simp) hp (one_write w i s) ?_).mono fun e w' ⟨he, hl⟩ => ⟨he, Leaves.from hb hl⟩
  intro g off n c hv hg
  cases hv
  have := hd.lt _ hg
  omega

abbrev ckW (w : World) (a E nx lg q sd : Nat) : World := ((((((w.setCell ⟨a, 1, none⟩ (.int .u64 (E : Int))).setCell ⟨a, 2, none⟩ (.int .u64 (nx : Int))).setCell ⟨a, 3, none⟩ (.int .i64 (lg : Int))).setCell ⟨a, 4, none⟩ (.int .i64 (q : Int))).setCell ⟨a, 5, none⟩ (.int .i64 (sd : Int))).setCell ⟨a, 7, none⟩ (.int .i64 0)).drew
theorem ck_only (w : World) (a E nx lg q sd : Nat) : Only (fun k => k = a) w (ckW w a E nx lg q sd) :=
  (((((((Only.refl (fun k => k = a) w).setCell (p := ⟨a, 1, none⟩) (fun _ => rfl) _).setCell (p := ⟨a, 2, none⟩) (fun _ => rfl) _).setCell (p := ⟨a, 3, none⟩) (fun _ => rfl) _).setCell (p := ⟨a, 4, none⟩) (fun _ => rfl) _).setCell (p := ⟨a, 5, none⟩) (fun _ => rfl) _).setCell (p := ⟨a, 7, none⟩) (fun _ => rfl) _).drew
theorem Jr.drew (h : Jr t w a p J) : Jr t w.drew a p J := by unfold Jr at *; exact h
theorem Jr.ck (h : Jr t w a p J) (E q sd : Nat) : Jr t (ckW w a E J.next J.log q sd) a p ⟨E, J.next, J.log, q, sd, J.next, 0⟩ := by
  have h1 := h.put (J' := { J with e := E }) (i := 1) (v := .int .u64 (E : Int)) (by simp [JCells])
  have h2 := h1.put (J' := { J with e := E, s := J.next }) (i := 2) (v := .int .u64 (J.next : Int)) (by simp [JCells])
  have h3 := h2.put (J' := { J with e := E, s := J.next }) (i := 3) (v := .int .i64 (J.log : Int)) (by simp [JCells])
  have h4 := h3.put (J' := { J with e := E, s := J.next, p := q }) (i := 4) (v := .int .i64 (q : Int)) (by simp [JCells])
  have h5 := h4.put (J' := { J with e := E, s := J.next, p := q, side := sd }) (i := 5) (v := .int .i64 (sd : Int)) (by simp [JCells])
  exact (h5.put (J' := ⟨E, J.next, J.log, q, sd, J.next, 0⟩) (i := 7) (v := .int .i64 0) (by simp [JCells])).drew
abbrev CkS (a g sd E nx lg q : Nat) (W : World) : Prop := W.cell? ⟨a, 5, none⟩ = some (.int .i64 (sd : Int)) /\ W.cell? ⟨g, 0, none⟩ = some (.int .u64 (E : Int)) /\ W.cell? ⟨g, 1, none⟩ = some (.int .u64 (nx : Int)) /\ W.cell? ⟨g, 2, none⟩ = some (.int .i64 (lg : Int)) /\ W.cell? ⟨g, 3, none⟩ = some (.int .i64 (q : Int))

set_option maxRecDepth 100000 in
set_option maxHeartbeats 2000000 in
theorem ckp_any (hj : Jr 104 w a p J) (hd : Stands S w p D) (ha : ¬ S a) (ok : J.Ok D.disk.length) (hp : D.pend.length <= 800000) :
    Calls Tryz.prog 126 #[.pointer (some ⟨a, 0, none⟩)] w fun e w' => e = .returned (.int .i64 (J.ckp D).1) /\ JLeaves 104 S w w' a p (J.ckp D).2.1 (J.ckp D).2.2 := by
  have hn := hd.ok.few
  have CB := Lib.hid (behind_any 0 hj ok hn (by have := ok.fu; omega))
  have HJ := Lib.hid hj; clear hj
  have HD := Lib.hid hd; clear hd
  have HA := Lib.hid ha; clear ha
  have HOK := Lib.hid ok; clear ok
  go_enter Tryz.func126, Tryz.ntmps126
  go_wp2_with fail
  refine CB.out.mono ?_
  rintro e w1 ⟨rfl, hb1⟩
  have HB1 := Lib.hid hb1; clear hb1
  go_wp2_with fail
  refine (jnoughts_all _).mono ?_
  rintro e w2 ⟨rfl, hb2⟩
  have HB2 := Lib.hid (HB1.out.trans (hb2.mono HB1.out.size)); clear hb2 HB1
  go_wp2_with fail
  obtain ⟨R1, hR1⟩ : ∃ R, D.stl [(((J.pos 0 : Nat) : Int), noughts)] = R := ⟨_, rfl⟩
  have C1 := Lib.hid (settle_one ((J.pos 0 : Nat) : Int) noughts (HJ.out.below HB2.out) (HD.out.below HB2.out) HA.out (by omega))
  rw [hR1] at C1
  have HL1 : Hid (R1.2.pend.length <= 850000 /\ R1.2.disk.length = D.disk.length) := by
    rw [<- hR1]; have := D.stl_len [(((J.pos 0 : Nat) : Int), noughts)]; exact ⟨by simp at this; omega, D.stl_disk _⟩
  have HCk : Hid (J.ckp D = if R1.1 ≠ 0 then (R1.1, R1.2, J) else
      if (R1.2.stl [(((1 - J.side : Nat) : Int), slotB ((J.e + 1) % 18446744073709551616) J.next J.log (J.pos 0 - 2))]).1 ≠ 0 then ((R1.2.stl [(((1 - J.side : Nat) : Int), slotB ((J.e + 1) % 18446744073709551616) J.next J.log (J.pos 0 - 2))]).1, (R1.2.stl [(((1 - J.side : Nat) : Int), slotB ((J.e + 1) % 18446744073709551616) J.next J.log (J.pos 0 - 2))]).2, J)
      else (0, (R1.2.stl [(((1 - J.side : Nat) : Int), slotB ((J.e + 1) % 18446744073709551616) J.next J.log (J.pos 0 - 2))]).2, J.next')) := by
    show J.ckp D = _
    rw [<- hR1]; rfl
  clear hR1 CB
  obtain ⟨er1, D1⟩ := R1
  simp only at C1 HL1 HCk
  refine C1.out.mono ?_
  rintro e w3 ⟨rfl, hv3⟩
  have HV3 := Lib.hid (Leaves.from HB2.out hv3); clear hv3 C1 HB2
  by_cases he1 : er1 = 0
  . have he1' : (er1 != 0) = false := by simp [he1]
    rw [if_neg (by simpa using he1)] at HCk
    obtain ⟨S3, hS3, hs3, ho3⟩ := HV3.out
    have hna : ¬ S3 a := fun h => by rcases hS3 a h with h | h; exact HA.out h; have := HJ.out.lt; omega
    have hj3 := HJ.out.only ho3 HA.out
    have hok3 : J.Ok D1.disk.length := by rw [HL1.out.2]; exact HOK.out
    have c1 := hj3.c1; have c3 := hj3.c3; have c5 := hj3.c5; have c6 := hj3.c6
    have CB3 : Hid (∀ W, Below w3.heap.size w3 W -> Calls Tryz.prog 175 #[.pointer (some ⟨a, 0, none⟩), .int .i64 0] W fun e w' => e = .returned (.int .i64 (J.pos 0)) /\ w' = W.drew) := fun W hW =>
      behind_drew 0 (hj3.below hW) hok3 (by rw [HL1.out.2]; exact hn) (by have := HOK.out.fu; omega)
    have hal := hj3.lt
    have HS3 := Lib.hid hS3; have HSt3 := Lib.hid hs3; have HO3 := Lib.hid ho3; have HJ3 := Lib.hid hj3; have HNA := Lib.hid hna
    clear hS3 hs3 ho3 hj3 hna hok3
    have hp2 := HOK.out.pos_lt 0
    have hll := HOK.out.l1
    obtain ⟨ps, hps⟩ : ∃ x, J.pos 0 = x := ⟨_, rfl⟩
    rw [hps] at CB3 HCk hp2
    have HPS := Lib.hid hps; clear hps
    obtain ⟨E, hE⟩ : ∃ x : Nat, (J.e + 1) % 18446744073709551616 = x := ⟨_, rfl⟩
    have wE : IntKind.u64.wrap ((J.e : Int) + 1) = (E : Int) := by rw [<- hE]; simp [IntKind.wrap, IntKind.bits, IntKind.signed]
    rw [hE] at HCk
    have HE := Lib.hid hE; clear hE
    obtain ⟨q, hq⟩ : ∃ q, ps = 2 + q := ⟨ps - 2, by omega⟩
    subst hq
    rw [Nat.add_sub_cancel_left] at HCk
    have wq : IntKind.i64.wrap (2 + (q : Int) - 2) = (q : Int) := by rw [show 2 + (q : Int) - 2 = (q : Int) by omega]; exact IntWalk.i64_in _ (by omega)
    go_wp2_with fail
    have hal' : w3.heap.size ≠ a := by omega
    go_region_held3 (fun W => W.cell? ⟨a, 1, none⟩ = some (.int .u64 J.e) /\ W.cell? ⟨a, 3, none⟩ = some (.int .i64 J.log) /\ W.cell? ⟨a, 6, none⟩ = some (.int .u64 J.next))
      (first | exact ⟨c1, c3, c6⟩ | go_keep)
      (first | (go_at_call 175; refine (CB3.out _ ?_).mono ?_; (first | exact (Below.refl _ _).drew | exact ((Below.refl _ _).drew).alloc (Nat.le_refl _) _); rintro e w' ⟨rfl, rfl⟩))
    all_goals
      obtain ⟨X, hX⟩ : ∃ X, (w3.alloc (.cells #[.int .u64 (E : Int), .int .u64 (J.next : Int), .int .i64 (J.log : Int), .int .i64 (q : Int)] 102)).drew.drew = X := ⟨_, rfl⟩
      rw [hX]
      have hXb : Below w3.heap.size w3 X := by rw [<- hX]; exact (((Below.refl _ _).alloc (Nat.le_refl _) _).drew).drew
      have hXh : X.heap[w3.heap.size]? = some (.cells #[.int .u64 (E : Int), .int .u64 (J.next : Int), .int .i64 (J.log : Int), .int .i64 (q : Int)] 102 (0, 0)) := by rw [<- hX]; exact heap_alloc_new ..
      have hXz : w3.heap.size < X.heap.size := (Array.getElem?_eq_some_iff.1 hXh).1
      clear hX
      have y0 : X.cell? ⟨w3.heap.size, 0, none⟩ = some (.int .u64 (E : Int)) := by rw [cell_at hXh]; rfl
      have y1 : X.cell? ⟨w3.heap.size, 1, none⟩ = some (.int .u64 (J.next : Int)) := by rw [cell_at hXh]; rfl
      have y2 : X.cell? ⟨w3.heap.size, 2, none⟩ = some (.int .i64 (J.log : Int)) := by rw [cell_at hXh]; rfl
      have y3 : X.cell? ⟨w3.heap.size, 3, none⟩ = some (.int .i64 (q : Int)) := by rw [cell_at hXh]; rfl
      have y5 : X.cell? ⟨a, 5, none⟩ = some (.int .i64 J.side) := (hXb.cell (p := ⟨a, 5, none⟩) hal).trans c5
      have hsi := HOK.out.si
      have hE64 : E < 18446744073709551616 := by rw [<- HE.out]; exact Nat.mod_lt _ (by omega)
      have CT : Hid (∀ W, Calls Tryz.prog 123 #[.agg #[.int .u64 (E : Int), .int .u64 (J.next : Int), .int .i64 (J.log : Int), .int .i64 (q : Int)]] W fun r w' => r = .returned (.string (slotB E J.next J.log q)) /\ Below W.heap.size W w') :=
        fun W => text_any E J.next J.log q W hE64 HOK.out.n64 (by omega) (by omega)
      have w1s : (1 : Int) - (J.side : Int) = ((1 - J.side : Nat) : Int) := by omega
      have w1s' : IntKind.i64.wrap ((1 : Int) - (J.side : Int)) = ((1 - J.side : Nat) : Int) := by rw [w1s]; exact IntWalk.i64_in _ (by omega)
      have HXh := Lib.hid hXh; have HXb := Lib.hid hXb
      clear hXh hXb c1 c3 c5 c6 wE wq w1s
      generalize slotB E J.next J.log q = tt at *
      obtain ⟨R2, hR2⟩ : ∃ R, D1.stl [(((1 - J.side : Nat) : Int), tt)] = R := ⟨_, rfl⟩
      rw [hR2] at HCk
      have CS : Hid (∀ W, Below X.heap.size X W -> Calls Tryz.prog 122 #[.pointer (some ⟨a, 0, none⟩), .slice (some ⟨W.heap.size, 0, none⟩) 1 1] (W.alloc (.cells #[.int .i64 ((1 - J.side : Nat) : Int), .string tt] 63)) fun e w' => e = .returned (.int .i64 R2.1) /\ Leaves S3 X w' p R2.2) := by
        intro W hW
        have hb := HXb.out.trans (hW.mono HXb.out.size)
        rw [<- hR2]
        exact (settle_one _ tt (HJ3.out.below hb) (HSt3.out.below hb) HNA.out (by have := HL1.out.1; omega)).mono fun e w' ⟨he, hl⟩ => ⟨he, Leaves.from hW hl⟩
      clear hR2
      have HCells : Hid (∀ W : World, W.heap[w3.heap.size]? = X.heap[w3.heap.size]? -> W.cell? ⟨a, 5, none⟩ = X.cell? ⟨a, 5, none⟩ -> CkS a w3.heap.size J.side E J.next J.log q W) := by
        intro W h1 h2
        have h := h1.trans HXh.out
        exact ⟨h2.trans y5, by rw [cell_at h]; rfl, by rw [cell_at h]; rfl, by rw [cell_at h]; rfl, by rw [cell_at h]; rfl⟩
      have hXa : a < X.heap.size := by omega
      have HKT : Hid (∀ W, Below X.heap.size X W -> CkS a w3.heap.size J.side E J.next J.log q W) := fun W hW => HCells.out W (hW.block _ hXz) (hW.cell (p := ⟨a, 5, none⟩) hXa)
      have HKA : Hid (∀ W o, Below X.heap.size X W -> CkS a w3.heap.size J.side E J.next J.log q (W.alloc o)) := fun W o hW => HKT.out (W.alloc o) (hW.alloc hW.size o)
      have HKL : Hid (∀ w' D', Leaves S3 X w' p D' -> CkS a w3.heap.size J.side E J.next J.log q w') := fun w' D' h => HCells.out w' (h.only.block _ hXz (fun hs => by have := HSt3.out.lt _ hs; omega)) (h.only.cell (p := ⟨a, 5, none⟩) hXa HNA.out)
      obtain ⟨er2, D2⟩ := R2
      simp only at CS HCk
      go_wp2_with fail
      go_region_held3 (fun W => W.cell? ⟨a, 5, none⟩ = some (.int .i64 J.side) /\ W.cell? ⟨w3.heap.size, 0, none⟩ = some (.int .u64 (E : Int)) /\ W.cell? ⟨w3.heap.size, 1, none⟩ = some (.int .u64 (J.next : Int)) /\ W.cell? ⟨w3.heap.size, 2, none⟩ = some (.int .i64 (J.log : Int)) /\ W.cell? ⟨w3.heap.size, 3, none⟩ = some (.int .i64 (q : Int)))
        (first | exact ⟨y5, y0, y1, y2, y3⟩ | exact HKT.out _ (by assumption) | exact HKA.out _ _ (by assumption) | exact HKL.out _ _ (by assumption))
        (first | (go_at_call 123; refine (CT.out _).mono ?_; rintro r w5 ⟨rfl, hb5'⟩; have hb5 := Fr.below_predrew hb5'; clear hb5')
               | (go_at_call 122; refine (CS.out _ hb5).mono ?_; rintro r w6 ⟨rfl, hv6⟩))
      rename_i hHeld
      obtain ⟨_, y0', y1', y2', y3'⟩ := hHeld
      have hl6 := Leaves.from HXb.out hv6
      have hj6 := HJ3.out.only hl6.only HNA.out
      obtain ⟨S6, hS6, hs6, ho6⟩ := hl6
      have hna6 : ¬ S6 a := fun h => by rcases hS6 a h with h | h; exact HNA.out h; omega
      clear hv6 hb5 y0 y1 y2 y3 y5
      by_cases he2 : er2 = 0
      . have he2' : (er2 != 0) = false := by simp [he2]
        rw [if_neg (by simpa using he2)] at HCk
        have c1 := hj6.c1; have c2 := hj6.c2; have c3 := hj6.c3; have c4 := hj6.c4; have c5 := hj6.c5; have c7 := hj6.c7
        have f1 := hj6.f 1; have f2 := hj6.f 2; have f3 := hj6.f 3; have f4 := hj6.f 4; have f5 := hj6.f 5; have f7 := hj6.f 7
        have HJ6 := Lib.hid hj6; clear hj6
        have HS6 := Lib.hid hS6; have HSt6 := Lib.hid hs6; have HO6 := Lib.hid ho6; have HN6 := Lib.hid hna6
        clear hS6 hs6 ho6 hna6
        go_wp2_with fail
        go_region
        go_wp2
        go_ret
        have hE' : J.next' = ⟨E, J.next, J.log, q, 1 - J.side, J.next, 0⟩ := by unfold JS.next'; rw [HE.out, HPS.out, Nat.add_sub_cancel_left]
        have hO := ck_only w6 a E J.next J.log q (1 - J.side)
        have hJ := HJ6.out.ck E q (1 - J.side)
        rw [<- hE'] at hJ
        refine ⟨by rw [HCk.out]; rfl, ?_⟩
        rw [HCk.out]
        exact JLeaves.next HS3.out (HO3.out.mono (fun _ _ h => .inl h)) ⟨S6, HS6.out, HSt6.out.kept hO (fun k hk hka => HN6.out (hka ▸ hk)), hJ, (HO6.out.mono (T := fun k => S3 k \/ k = a) (fun _ _ h => .inl h)).trans hO (fun _ _ h => .inr h)⟩
      . have he2' : (er2 != 0) = true := by simp [he2]
        rw [if_pos (by simpa using he2)] at HCk
        have HF : Hid (JLeaves 104 S w w6 a p D2 J) := JLeaves.next HS3.out (HO3.out.mono (fun _ _ h => .inl h)) (JLeaves.of ⟨S6, hS6, hs6, ho6⟩ HJ3.out HNA.out)
        clear hj6 hS6 hs6 ho6 hna6
        go_wp2
        go_ret
        exact ⟨by rw [HCk.out]; rfl, by rw [HCk.out]; exact HF.out⟩
  . have he1' : (er1 != 0) = true := by simp [he1]
    rw [if_pos (by simpa using he1)] at HCk
    have HF : Hid (JLeaves 104 S w w3 a p D1 J) := JLeaves.of HV3.out HJ.out HA.out
    go_wp2
    go_ret
    exact ⟨by rw [HCk.out]; rfl, by rw [HCk.out]; exact HF.out⟩
end
end Go.Proofs.YthambopnmhkeeaaGreat
/- Small facts that the texts of the document's own frames share: an append step of a region, noughts as a text, texts joined. -/
namespace Go.Proofs.YthambopnmhkeeaaGreat.Fr
open Go.RowKit

section
variable {P : Program}
theorem step_append_own {ops : Array Oper} {o : Oper} {a : Act} {w : World} {K : Act -> World -> Prop} {Q : Exit -> Act -> World -> Prop} {E : Prop} (hgd : o.guard = none) (s x : Operand) (t : TypeId)
    (ho : o.op = .call { callee := .builtin .append, args := #[s, x], argTypes := #[t, t] })
    (base : Nat) (e : TypeId) (i : TypeInfo) (z : Value) (size bytes : Nat) (ht : P.underlying t = some (.slice e)) (hi : P.info? e = some i) (hz : i.zero = some z)
    (hsize : i.size = size) (hby : i.bytes = bytes) (hzs : z.cells.size = size) (hsz : 0 < size)
    (v : Value) (n : Nat) (xs : List Value) (hs : a.eval s = v) (hown : w.ownsRow base e size v n xs)
    (ad : Addr) (m c : Nat) (news : List Value) (hx : a.eval x = .slice (some ad) m c) (hl : news.length = m * size) (hnews : ∀ j u, news[j]? = some u -> w.cell? (ad.add j) = some u) (h1 : ∀ u ∈ news, u.oneCell' = true)
    (h63 : n + m <= maxLen) (hbytes : (n + m) * bytes <= 140737488355328) (hbase : base <= w.heap.size)
    (h : ∀ v' w', w'.ownsRow base e size v' (n + m) (xs ++ news) -> w.grownBy w' v.ownBlock -> K (a.put o.dst v') w') :
    if Region.wanted o (yielded ops a.tmps) = true then Oper.wp P o a w K Q else E := by
  have hw : Region.wanted o (yielded ops a.tmps) = true := by simp [Region.wanted, hgd]
  rw [if_pos hw]
  exact wp_append_own w s x t ho base e i z size bytes ht hi hz hsize hby hzs hsz v n xs hs hown ad m c news hx hl hnews h1 h63 hbytes hbase (fun v' w' h2 h3 _ => h v' w' h2 h3)
end

theorem zero_text {B : Nat} {w : World} {g n : Nat} (h : w.ownsRow B 5 1 (.slice (some ⟨g, 0, none⟩) n n) n (List.replicate n (.int .u8 0))) :
    (convert 107 9 (.slice (some ⟨g, 0, none⟩) n n)).run Tryz.prog w = .ok (.string (bs (List.replicate n 0))) w := by
  have e : bs (List.replicate n 0) = strOfNums (List.replicate n 0) := by
    unfold bs strOfNums
    rw [List.map_replicate]; rfl
  rw [e]
  refine run_convert_bytes_arg w 107 5 Tryz.underlying107 Tryz.underlying5 g 0 n n (List.replicate n 0) (by simp) ?_ 9 Tryz.underlying9
  intro i hi
  rw [Nat.zero_add, World.ownsRow.cellAt h i (by omega)]
  simp [List.getD, hi]

theorem joinB_map_take (L : List (Int × ByteArray)) (k : Nat) (h : k < L.length) : joinB ((L.take (k + 1)).map (·.2)) = joinB ((L.take k).map (·.2)) ++ L[k].2.data.toList := by
  rw [List.take_succ_eq_append_getElem h, List.map_append]
  unfold joinB
  rw [List.flatMap_append]
  simp
theorem bs_grow {T : ByteArray} {L : List (Int × ByteArray)} {k : Nat} (h : k < L.length) (hT : T = bs (joinB ((L.take k).map (·.2)))) : T ++ L[k].2 = bs (joinB ((L.take (k + 1)).map (·.2))) := by
  rw [hT, joinB_map_take L k h, <- bs_append, bs_data]

end Go.Proofs.YthambopnmhkeeaaGreat.Fr
/- What nextFrame answers: the writes of the frame behind those that are there, or nothing. -/
namespace Go.Proofs.YthambopnmhkeeaaGreat
open Go.RowKit
open Fr (SlW SlS WritesAt StrsAt OwnS OwnW nmAt hd unp headB own_push one_cell one_one)

section
variable {S : Nat -> Prop} {w w' : World} {a p : Nat} {J : JS} {D : DevS}

theorem DevS.Ok.rdB_size (ok : D.Ok) (j : Nat) (hj : j < D.disk.length) : (D.rdB j).size = 256 := by
  unfold DevS.rdB
  split
  . rename_i x hx
    have := List.mem_of_find?_eq_some hx
    exact (ok.pends x (List.mem_reverse.1 this)).2
  . rw [getD_lt _ _ hj]; exact ok.whole _ (List.getElem_mem hj)
theorem DevS.rd_live (hde : D.dead = false) (j : Nat) (hj : j < D.disk.length) : D.rd (j : Int) = (D.rdB j, 0) := by
  have : D.ck (j : Int) = 0 := by
    unfold DevS.ck; rw [hde]; simp; omega
  unfold DevS.rd; rw [this]; simp
def JS.readK (J : JS) (D : DevS) (k : Nat) : List ByteArray := D.rdB (J.pos 0) :: (List.range k).map fun i => D.rdB (J.pos (i + 1))
theorem readK_succ (J : JS) (D : DevS) (k : Nat) : J.readK D (k + 1) = J.readK D k ++ [D.rdB (J.pos (k + 1))] := by
  unfold JS.readK; rw [List.range_succ, List.map_append]; rfl
theorem readK_len (J : JS) (D : DevS) (k : Nat) : (J.readK D k).length = k + 1 := by simp [JS.readK]

theorem unp_seq (l : List ByteArray) : (unp l).1 < 18446744073709551616 := by
  cases l with
  | nil => show 0 < _; omega
  | cons s D =>
    rw [Fr.unp_cons]
    split
    . split
      . show Fr.seqOf _ < _
        have h1 := Fr.nmAt_lt s.data.toList 4; have h2 := Fr.nmAt_lt s.data.toList 8
        unfold Fr.seqOf; omega
      . show 0 < _; omega
    . show 0 < _; omega
theorem unp_some (l : List ByteArray) (h : ∀ d ∈ l, d.size = 256) : (unp l).2.1.length <= l.length /\ ∀ x ∈ (unp l).2.1, x.2.size = 256 := by
  cases l with
  | nil => exact ⟨Nat.le_refl _, fun x hx => by cases hx⟩
  | cons s D =>
    rw [Fr.unp_cons]
    split
    . split
      . refine ⟨?_, fun x hx => ?_⟩
        . show ((Fr.blocksOf s.data.toList).zip (D.take (nmAt s.data.toList 12))).length <= _
          rw [List.length_zip, List.length_take, List.length_cons]; omega
        . have hx' : x ∈ (Fr.blocksOf s.data.toList).zip (D.take (nmAt s.data.toList 12)) := hx
          have := (List.of_mem_zip hx').2
          exact h _ (List.mem_cons_of_mem _ (List.mem_of_mem_take this))
      . exact ⟨Nat.zero_le _, fun x hx => by cases hx⟩
    . exact ⟨Nat.zero_le _, fun x hx => by cases hx⟩

set_option maxRecDepth 100000 in
set_option maxHeartbeats 2000000 in
theorem next_any (hj : Jr 104 w a p J) (hd : Stands S w p D) (ok : J.Ok D.disk.length) (hde : D.dead = false) (hp : D.pend.length <= 1000000) :
    Calls Tryz.prog 173 #[.pointer (some ⟨a, 0, none⟩)] w fun e w' => ∃ u, e = .returned (.tuple #[u, .int .i64 0]) /\ OwnW w.heap.size w' u ((J.frameOf D).getD []) /\ Below w.heap.size w w' := by
  obtain ⟨i0, hi, hz0, hz1, hz2⟩ := info_parts Tryz.infoS
  have HZ2 := Lib.hid hz2; clear hz2
  have hnd := hd.ok.few
  have hll := ok.l1
  have hfu := ok.fu
  have CB : Hid (∀ W i, J.full + i <= J.log -> Below w.heap.size w W -> Calls Tryz.prog 175 #[.pointer (some ⟨a, 0, none⟩), .int .i64 ((i : Nat) : Int)] W fun e w' => e = .returned (.int .i64 (J.pos i)) /\ w' = W.drew) :=
    fun W i h hW => behind_drew i (hj.below hW) ok hnd h
  have CR : Hid (∀ W i, Below w.heap.size w W -> Calls Tryz.prog 147 #[.pointer (some ⟨p, 0, none⟩), .int .i64 ((J.pos i : Nat) : Int)] W fun e w' => e = .returned (.tuple #[.string (D.rdB (J.pos i)), .int .i64 0]) /\ Below W.heap.size W w') := fun W i hW => by
    have := read_any (J.pos i : Int) hp (hd.below hW)
    rw [DevS.rd_live hde _ (by have := ok.pos_lt i; omega)] at this
    exact this
  have CL : Hid (∀ W, Below w.heap.size w W -> Calls Tryz.prog 130 #[.pointer (some ⟨a, 0, none⟩)] W fun e w' => e = .returned (.int .i64 J.left) /\ w' = W.drew) := fun W hW => left_drew (hj.below hW) ok hnd
  have HSZ : Hid (∀ i, (D.rdB (J.pos i)).size = 256) := fun i => hd.ok.rdB_size _ (by have := ok.pos_lt i; omega)
  have CK : Hid (∀ W v L, Below w.heap.size w W -> L.length <= 1000 -> (∀ x ∈ L, x.2.size <= maxLen) -> SlW W v L -> Calls Tryz.prog 128 #[.pointer (some ⟨a, 0, none⟩), v] W fun e w' => e = .returned (.int .i64 ((J.chk D.disk.length L : Nat) : Int)) /\ Below W.heap.size W w') :=
    fun W v L hW h1 h2 h3 => jcheck_any (hj.below hW) (hd.below hW) ok h1 h2 h3
  have ca := hj.c0
  have c6 := hj.c6
  have hal := hj.lt
  have CB0 : Hid (∀ W, Below w.heap.size w W -> Calls Tryz.prog 175 #[.pointer (some ⟨a, 0, none⟩), .int .i64 0] W fun e w' => e = .returned (.int .i64 (J.pos 0)) /\ w' = W.drew) := fun W hW => CB.out W 0 (by omega) hW
  have CR0 : Hid (∀ W, Below w.heap.size w W -> Calls Tryz.prog 147 #[.pointer (some ⟨p, 0, none⟩), .int .i64 ((J.pos 0 : Nat) : Int)] W fun e w' => e = .returned (.tuple #[.string (D.rdB (J.pos 0)), .int .i64 0]) /\ Below W.heap.size W w') := fun W hW => CR.out W 0 hW
  have HKp : Hid (∀ W, Below w.heap.size w W -> W.cell? ⟨a, 0, none⟩ = some (.pointer (some ⟨p, 0, none⟩))) := fun W hW => (hW.cell (p := ⟨a, 0, none⟩) hal).trans ca
  have HK6 : Hid (∀ W, Below w.heap.size w W -> W.cell? ⟨a, 6, none⟩ = some (.int .u64 (J.next : Int))) := fun W hW => (hW.cell (p := ⟨a, 6, none⟩) hal).trans c6
  clear hj hd c6
  have HOK := Lib.hid ok; clear ok
  have HFr : Hid (J.frameOf D = if headB (D.rdB (J.pos 0)).data.toList = true /\ nmAt (D.rdB (J.pos 0)).data.toList 12 + 1 <= J.left /\ (unp (J.readK D (nmAt (D.rdB (J.pos 0)).data.toList 12))).2.2 = 0 /\ (unp (J.readK D (nmAt (D.rdB (J.pos 0)).data.toList 12))).1 = J.next /\ J.chk D.disk.length (unp (J.readK D (nmAt (D.rdB (J.pos 0)).data.toList 12))).2.1 = 0
      then some (unp (J.readK D (nmAt (D.rdB (J.pos 0)).data.toList 12))).2.1 else none) := rfl
  obtain ⟨HD0, hHD0⟩ : ∃ x, D.rdB (J.pos 0) = x := ⟨_, rfl⟩
  have CH : Hid (∀ W, Calls Tryz.prog 205 #[.string HD0] W fun e w' => e = .returned (.tuple #[.int .u64 (((hd HD0).1 : Nat) : Int), .int .i64 (((hd HD0).2.1 : Nat) : Int), .bool (hd HD0).2.2]) /\ Below W.heap.size W w') := fun W => Fr.head_any HD0 W
  rw [hHD0] at HFr CR0
  obtain ⟨n, hn⟩ : ∃ n, nmAt HD0.data.toList 12 = n := ⟨_, rfl⟩
  rw [hn] at HFr
  cases hB : headB HD0.data.toList with
  | false =>
    have HR : Hid (J.frameOf D = none) := by show _ = _; rw [HFr.out, if_neg (by rw [hB]; simp)]
    rw [Fr.headB_false hB] at CH
    clear hB HFr hn hHD0
    go_enter Tryz.func173, Tryz.ntmps173
    go_wp2_with fail
    go_region_held3 (fun W => W.cell? ⟨a, 0, none⟩ = some (.pointer (some ⟨p, 0, none⟩)))
      (first | exact ca | exact HKp.out _ (by assumption))
      (first | (go_at_call 175; refine (CB0.out _ ?_).mono ?_; exact (Below.refl _ _).drew; rintro e w' ⟨rfl, rfl⟩)
             | (go_at_call 147; refine (CR0.out _ ?_).mono ?_; exact ((Below.refl _ _).drew).drew; rintro r w1 ⟨rfl, hb1'⟩; have hb1 : Below w.heap.size w w1 := Fr.below_predrew (Fr.below_predrew hb1'); clear hb1'))
    all_goals
      have HB1 := Lib.hid hb1
      clear hb1
      go_wp2_with fail
      refine (CH.out _).mono ?_
      rintro e w2 ⟨rfl, hb2⟩
      have HB2 := Lib.hid (HB1.out.trans (hb2.mono HB1.out.size)); clear hb2
      go_wp2
      go_ret2
      exact ⟨_, rfl, by rw [HR.out]; exact OwnW.nil _ _, HB2.out⟩
  | true =>
    rw [Fr.headB_true hB] at CH
    have hn48 : 1 <= n /\ n <= 48 := by rw [<- hn]; exact ⟨((Fr.headB_iff _).1 hB).2.2.2.1, ((Fr.headB_iff _).1 hB).2.2.2.2.1⟩
    simp only [hn] at CH
    generalize Fr.seqOf HD0.data.toList = sq0 at *
    have hlf : J.left = J.log - J.full := rfl
    by_cases hlt : J.left < n + 1
    . have HR : Hid (J.frameOf D = none) := by show _ = _; rw [HFr.out, if_neg (fun h => by omega)]
      have hlt' : (J.left : Int) < (n : Int) + 1 := by omega
      clear hB HFr hn hHD0 hlf
      go_enter Tryz.func173, Tryz.ntmps173
      go_wp2_with fail
      go_region_held3 (fun W => W.cell? ⟨a, 0, none⟩ = some (.pointer (some ⟨p, 0, none⟩)))
        (first | exact ca | exact HKp.out _ (by assumption))
        (first | (go_at_call 175; refine (CB0.out _ ?_).mono ?_; exact (Below.refl _ _).drew; rintro e w' ⟨rfl, rfl⟩)
               | (go_at_call 147; refine (CR0.out _ ?_).mono ?_; exact ((Below.refl _ _).drew).drew; rintro r w1 ⟨rfl, hb1'⟩; have hb1 : Below w.heap.size w w1 := Fr.below_predrew (Fr.below_predrew hb1'); clear hb1'))
      all_goals
        have HB1 := Lib.hid hb1
        clear hb1
        go_wp2_with fail
        refine (CH.out _).mono ?_
        rintro e w2 ⟨rfl, hb2⟩
        have HB2 := Lib.hid (HB1.out.trans (hb2.mono HB1.out.size)); clear hb2
        go_wp2_with fail
        refine (CL.out _ HB2.out).mono ?_
        rintro e w3 ⟨rfl, rfl⟩
        go_wp2
        go_ret2
        exact ⟨_, rfl, by rw [HR.out]; exact OwnW.nil _ _, HB2.out.drew⟩
    . have hlt' : ¬ (J.left : Int) < (n : Int) + 1 := by omega
      have hfull : J.full + n + 1 <= J.log := by omega
      clear hn hlf
      go_enter Tryz.func173, Tryz.ntmps173
      go_wp2_with fail
      go_region_held3 (fun W => W.cell? ⟨a, 0, none⟩ = some (.pointer (some ⟨p, 0, none⟩)))
        (first | exact ca | exact HKp.out _ (by assumption))
        (first | (go_at_call 175; refine (CB0.out _ ?_).mono ?_; exact (Below.refl _ _).drew; rintro e w' ⟨rfl, rfl⟩)
               | (go_at_call 147; refine (CR0.out _ ?_).mono ?_; exact ((Below.refl _ _).drew).drew; rintro r w1 ⟨rfl, hb1'⟩; have hb1 : Below w.heap.size w w1 := Fr.below_predrew (Fr.below_predrew hb1'); clear hb1'))
      all_goals
        have HB1 := Lib.hid hb1
        clear hb1
        go_wp2_with fail
        refine (CH.out _).mono ?_
        rintro e w2 ⟨rfl, hb2⟩
        have HB2 := Lib.hid (HB1.out.trans (hb2.mono HB1.out.size)); clear hb2
        go_wp2_with fail
        refine (CL.out _ HB2.out).mono ?_
        rintro e w3 ⟨rfl, rfl⟩
        have hbr2 := HB2.out.size
        go_wp2_with fail
        have hO0 : OwnS w.heap.size (w2.alloc (.cells #[.string HD0] 9)) (.slice (some ⟨w2.heap.size, 0, none⟩) 1 1) [HD0] := World.ownsRow_lit w2 #[.string HD0] 1 hbr2 (by unfold maxLen; omega) rfl
        have HO : Hid (OwnS w.heap.size (w2.alloc (.cells #[.string HD0] 9)).drew (.slice (some ⟨w2.heap.size, 0, none⟩) 1 1) (J.readK D 0)) := by
          have := hO0.below ((Below.refl _ _).drew)
          unfold JS.readK; rw [hHD0]; exact this
        clear hO0
        have HBa : Hid (Below w.heap.size w (w2.alloc (.cells #[.string HD0] 9)).drew) := (HB2.out.alloc hbr2 _).drew
        generalize (w2.alloc (.cells #[.string HD0] 9)).drew = w6 at *
        generalize (.slice (some ⟨w2.heap.size, 0, none⟩) 1 1 : Value) = v6 at *
        clear HB1 HB2 hbr2 CH CL
        go_loopw [9, 46] (fun fv i wr => ∃ k : Nat, k <= n /\ i = .int .i64 k /\ Hid (OwnS w.heap.size wr fv (J.readK D k)) /\ Hid (Below w.heap.size w wr)) (fun _ i _ => n - (intOf i).toNat)
        case atStart => exact ⟨0, Nat.zero_le _, rfl, HO, HBa⟩
        case round =>
          clear HO HBa
          obtain ⟨k, hk, rfl, HO, HB⟩ := hrel
          have hbr := HB.out.size
          have car := HKp.out _ HB.out
          by_cases hlk : k < n
          . have hlk' : (k : Int) < (n : Int) := by omega
            have CBk : Hid (∀ W, Below w.heap.size w W -> Calls Tryz.prog 175 #[.pointer (some ⟨a, 0, none⟩), .int .i64 (1 + (k : Int))] W fun e w' => e = .returned (.int .i64 (J.pos (k + 1))) /\ w' = W.drew) := fun W hW => by
              have := CB.out W (k + 1) (by omega) hW
              rw [show (((k + 1 : Nat)) : Int) = 1 + (k : Int) by omega] at this
              exact this
            have CRk : Hid (∀ W, Below w.heap.size w W -> Calls Tryz.prog 147 #[.pointer (some ⟨p, 0, none⟩), .int .i64 ((J.pos (k + 1) : Nat) : Int)] W fun e w' => e = .returned (.tuple #[.string (D.rdB (J.pos (k + 1))), .int .i64 0]) /\ Below W.heap.size W w') := fun W hW => CR.out W (k + 1) hW
            have HSN := Lib.hid (readK_succ J D k)
            have hlen : (J.readK D k).length <= 49 := by rw [readK_len]; omega
            obtain ⟨M, hM⟩ : ∃ M, J.readK D k = M := ⟨_, rfl⟩
            rw [hM] at HO HSN hlen
            clear hM
            generalize D.rdB (J.pos (k + 1)) = pt at *
            generalize J.pos (k + 1) = pi at *
            have w1k : IntKind.i64.wrap (1 + (k : Int)) = 1 + (k : Int) := IntWalk.i64_in _ (by omega)
            go_wp2_with fail
            go_region_held3 (fun W => W.cell? ⟨a, 0, none⟩ = some (.pointer (some ⟨p, 0, none⟩)))
              (first | exact car | exact HKp.out _ (by assumption))
              (first | (go_at_call 175; refine (CBk.out _ ?_).mono ?_; exact HB.out.drew; rintro e w' ⟨rfl, rfl⟩)
                     | (go_at_call 147; refine (CRk.out _ ?_).mono ?_; exact (HB.out.drew).drew; rintro r w7 ⟨rfl, hb7'⟩; have hb7 : Below w.heap.size w w7 := HB.out.trans ((Fr.below_predrew (Fr.below_predrew hb7')).mono hbr); have HO7 := Lib.hid (HO.out.below (Fr.below_predrew (Fr.below_predrew hb7'))); clear hb7'))
            all_goals
              have HB7 := Lib.hid hb7
              clear hb7 HO
              have hbr7 := HB7.out.size
              go_wp2_with (at_builtin; go_loud (refine wpList_append_own _ rfl _ _ 47 rfl w.heap.size 9 i0 _ 1 16 Tryz.underlying47 hi hz0 hz1 HZ2.out rfl (by decide) _ _ _ rfl (HO7.out.alloc _) _ 1 1 [.string pt] rfl rfl (one_cell rfl) one_one ?c3 ?c4 ?c5 ?_))
              case c3 => unfold maxLen; omega
              case c4 => omega
              case c5 => simp; omega
              intro v1 w8 hown hgrow _
              have HO8 : Hid (OwnS w.heap.size w8 v1 (J.readK D (k + 1))) := by
                show OwnS _ _ _ _
                rw [HSN.out]; exact own_push hown
              have HB8 : Hid (Below w.heap.size w w8) := ((HB7.out.alloc hbr7 _).grown hgrow (by simp; omega) (fun q hq => (HO7.out.lt q hq).1))
              clear hown hgrow
              go_wp2
              go_roundw
              case rel => exact ⟨k + 1, by omega, by go_num, HO8, HB8⟩
              case measure => simp [intOf]; omega
          . have hkn : k = n := by omega
            subst hkn
            have hlk' : ¬ (k : Int) < (k : Int) := by omega
            have hcu : ∀ d ∈ J.readK D k, d.size = 256 := fun d hd => by
              unfold JS.readK at hd
              rcases List.mem_cons.1 hd with rfl | hd
              . exact HSZ.out 0
              . obtain ⟨i, _, rfl⟩ := List.mem_map.1 hd; exact HSZ.out (i + 1)
            have CU := Lib.hid (Fr.unpack_any (J.readK D k) u9 wr (by rw [readK_len]; omega) (fun d hd => by rw [hcu d hd]; unfold maxLen; omega) HO.out.sl)
            clear hcu
            have c6r := HK6.out _ HB.out
            obtain ⟨ao9, c9, hv9, _⟩ := HO.out.sl
            subst hv9
            go_wp2_with fail
            refine CU.out.mono ?_
            rintro e w7 ⟨u, rfl, hu7, hb7⟩
            have HB7 := Lib.hid (HB.out.trans (hb7.mono hbr))
            have HU7 := Lib.hid (hu7.mono hbr)
            clear hu7 hb7 CU c6r
            have c67 := HK6.out _ HB7.out
            have hF2 : J.frameOf D = if (unp (J.readK D k)).2.2 = 0 /\ (unp (J.readK D k)).1 = J.next /\ J.chk D.disk.length (unp (J.readK D k)).2.1 = 0 then some (unp (J.readK D k)).2.1 else none := by
              rw [HFr.out]
              by_cases hX : (unp (J.readK D k)).2.2 = 0 /\ (unp (J.readK D k)).1 = J.next /\ J.chk D.disk.length (unp (J.readK D k)).2.1 = 0
              . rw [if_pos hX, if_pos ⟨hB, by omega, hX⟩]
              . rw [if_neg hX, if_neg (fun h => hX h.2.2)]
            have HF2 := Lib.hid hF2; clear hF2 HFr
            have hws : (unp (J.readK D k)).2.1.length <= 1000 /\ ∀ x ∈ (unp (J.readK D k)).2.1, x.2.size <= maxLen := by
              have h1 := unp_some (J.readK D k) (fun d hd => by
                unfold JS.readK at hd
                rcases List.mem_cons.1 hd with rfl | hd
                . exact HSZ.out 0
                . obtain ⟨i, _, rfl⟩ := List.mem_map.1 hd; exact HSZ.out (i + 1))
              rw [readK_len] at h1
              exact ⟨by omega, fun x hx => by rw [h1.2 x hx]; unfold maxLen; omega⟩
            have HC7 : Hid (∀ W, Below w7.heap.size w7 W -> Calls Tryz.prog 128 #[.pointer (some ⟨a, 0, none⟩), u] W fun e w' => e = .returned (.int .i64 ((J.chk D.disk.length (unp (J.readK D k)).2.1 : Nat) : Int)) /\ Below W.heap.size W w') :=
              fun W hW => CK.out W u _ (HB7.out.trans (hW.mono HB7.out.size)) hws.1 hws.2 (HU7.out.sl.below hW)
            clear hws CK
            have hn64 : (unp (J.readK D k)).1 < 18446744073709551616 := unp_seq _
            have hx64 := HOK.out.n64
            generalize unp (J.readK D k) = U at *
            obtain ⟨sq, ws, er⟩ := U
            simp only at HF2 HC7 HU7 hn64 ⊢
            generalize J.chk D.disk.length ws = ck at *
            obtain ⟨ao10, c10, hv10, _⟩ := HU7.out.sl
            subst hv10
            have HNil : Hid (∀ W, Below w.heap.size w W -> OwnW w.heap.size W (.slice none 0 0) []) := fun W _ => OwnW.nil _ _
            by_cases h1 : er = 0
            . have h1' : (((er : Nat) : Int) != 0) = false := by simp [h1]
              by_cases h2 : sq = J.next
              . have h2' : (((sq : Nat) : Int) != (J.next : Int)) = false := by simp [h2]
                by_cases h3 : ck = 0
                . have h3' : (((ck : Nat) : Int) != 0) = false := by simp [h3]
                  rw [if_pos ⟨h1, h2, h3⟩] at HF2
                  clear h1 h2 h3
                  go_wp2_with fail
                  refine (HC7.out _ (Below.refl _ _)).mono ?_
                  rintro e w8 ⟨rfl, hb8⟩
                  have HB8 := Lib.hid (HB7.out.trans (hb8.mono HB7.out.size))
                  have HU8 := Lib.hid (HU7.out.below hb8)
                  clear hb8
                  go_wp2
                  go_ret2
                  exact ⟨_, rfl, by rw [HF2.out]; exact HU8.out, HB8.out⟩
                . have h3' : (((ck : Nat) : Int) != 0) = true := by simp [h3]
                  rw [if_neg (fun h => h3 h.2.2)] at HF2
                  clear h1 h2 h3
                  go_wp2_with fail
                  refine (HC7.out _ (Below.refl _ _)).mono ?_
                  rintro e w8 ⟨rfl, hb8⟩
                  have HB8 := Lib.hid (HB7.out.trans (hb8.mono HB7.out.size))
                  clear hb8
                  go_wp2
                  go_ret2
                  exact ⟨_, rfl, by rw [HF2.out]; exact OwnW.nil _ _, HB8.out⟩
              . have h2' : (((sq : Nat) : Int) != (J.next : Int)) = true := by simp; omega
                rw [if_neg (fun h => h2 h.2.1)] at HF2
                clear h1 h2
                go_wp2
                go_ret2
                exact ⟨_, rfl, by rw [HF2.out]; exact OwnW.nil _ _, HB7.out⟩
            . have h1' : (((er : Nat) : Int) != 0) = true := by simp [h1]
              rw [if_neg (fun h => h1 h.1)] at HF2
              clear h1
              go_wp2
              go_ret2
              exact ⟨_, rfl, by rw [HF2.out]; exact OwnW.nil _ _, HB7.out⟩
end
end Go.Proofs.YthambopnmhkeeaaGreat
/- What Checkpoint, add and Commit keep: in plain lists. -/
namespace Go.Proofs.YthambopnmhkeeaaGreat
open Go.RowKit
section
variable {J : JS} {D : DevS} {n : Nat} {L : List (Int × ByteArray)}

theorem JS.Ok.next' (h : J.Ok n) : J.next'.Ok n := by
  have hp := h.pos_lt 0
  exact ⟨h.l0, h.l1, by show J.pos 0 - 2 < J.log; omega, by show 1 - J.side <= 1; omega, Nat.zero_le _, Nat.mod_lt _ (by omega), h.n64, h.n64⟩
theorem JS.Ok.grow (h : J.Ok n) (m : Nat) (hm : J.full + m <= J.log) : (J.grow m).Ok n :=
  ⟨h.l0, h.l1, h.pl, h.si, hm, h.e64, h.s64, Nat.mod_lt _ (by omega)⟩
theorem JS.ckp_good (h : (J.ckp D).1 = 0) : (J.ckp D).2.2 = J.next' := by
  unfold JS.ckp at *
  simp only at *
  split
  . rename_i h1; rw [if_pos h1] at h; exact absurd h h1
  . rename_i h1
    rw [if_neg h1] at h
    split
    . rename_i h2; rw [if_pos h2] at h; exact absurd h h2
    . rfl
theorem JS.ckp_disk : (J.ckp D).2.1.disk.length = D.disk.length := by
  unfold JS.ckp
  simp only
  split
  . exact D.stl_disk _
  . split
    . rw [DevS.stl_disk, DevS.stl_disk]
    . rw [DevS.stl_disk, DevS.stl_disk]
theorem JS.ckp_len : (J.ckp D).2.1.pend.length <= D.pend.length + 2 := by
  unfold JS.ckp
  simp only
  split
  . have := D.stl_len [(((J.pos 0 : Nat) : Int), noughts)]; simp at this; show (D.stl [(((J.pos 0 : Nat) : Int), noughts)]).2.pend.length <= _; omega
  . have h1 := D.stl_len [(((J.pos 0 : Nat) : Int), noughts)]
    have h2 := (D.stl [(((J.pos 0 : Nat) : Int), noughts)]).2.stl_len [(((1 - J.side : Nat) : Int), slotB ((J.e + 1) % 18446744073709551616) J.next J.log (J.pos 0 - 2))]
    simp at h1 h2
    split <;> (simp only; omega)
theorem JS.addF_disk {top : ByteArray} {ds : List ByteArray} : (J.addF D top ds).2.1.disk.length = D.disk.length := by
  unfold JS.addF
  simp only
  split
  . exact D.stl_disk _
  . split
    . rw [DevS.stl_disk, DevS.stl_disk]
    . rw [DevS.stl_disk, DevS.stl_disk]
theorem JS.dataW_len (ds : List ByteArray) : (J.dataW ds).length = ds.length + 1 := by simp [JS.dataW]
theorem JS.addF_len {top : ByteArray} {ds : List ByteArray} : (J.addF D top ds).2.1.pend.length <= D.pend.length + ds.length + 2 := by
  unfold JS.addF
  simp only
  split
  . have := D.stl_len (J.dataW ds); rw [JS.dataW_len] at this; show (D.stl (J.dataW ds)).2.pend.length <= _; omega
  . have h1 := D.stl_len (J.dataW ds)
    have h2 := (D.stl (J.dataW ds)).2.stl_len [(((J.pos 0 : Nat) : Int), top)]
    rw [JS.dataW_len] at h1
    simp at h2
    split <;> (simp only; omega)
theorem JS.addF_err {top : ByteArray} {ds : List ByteArray} (h : (J.addF D top ds).1 ≠ 0) : (J.addF D top ds).2.2 = J := by
  unfold JS.addF at *
  simp only at *
  split
  . rfl
  . rename_i h1
    rw [if_neg h1] at h
    split
    . rfl
    . rename_i h2; rw [if_neg h2] at h; exact absurd rfl h
theorem JS.addF_good {top : ByteArray} {ds : List ByteArray} (h : (J.addF D top ds).1 = 0) : (J.addF D top ds).2.2 = J.grow (ds.length + 1) := by
  unfold JS.addF at *
  simp only at *
  split
  . rename_i h1; rw [if_pos h1] at h; exact absurd h h1
  . rename_i h1
    rw [if_neg h1] at h
    split
    . rename_i h2; rw [if_pos h2] at h; exact absurd h h2
    . rfl
end
end Go.Proofs.YthambopnmhkeeaaGreat
/- What add answers and leaves behind: a frame is laid behind those that are there. -/
namespace Go.Proofs.YthambopnmhkeeaaGreat
open Go.RowKit
open Fr (SlW SlS WritesAt StrsAt OwnW flatI two_cells two_one own_pushW step_append_own)

section
variable {S S1 T : Nat -> Prop} {w w1 w2 w' : World} {a p : Nat} {J J1 J2 : JS} {D D1 D2 : DevS} {v : Value} {top : ByteArray} {ds : List ByteArray}

def JS.dataK (J : JS) (ds : List ByteArray) (k : Nat) : List (Int × ByteArray) := (List.range k).map fun i => (((J.pos (i + 1) : Nat) : Int), ds.getD i ByteArray.empty)
theorem dataK_succ (J : JS) (ds : List ByteArray) (k : Nat) : J.dataK ds (k + 1) = J.dataK ds k ++ [(((J.pos (k + 1) : Nat) : Int), ds.getD k ByteArray.empty)] := by
  unfold JS.dataK; rw [List.range_succ, List.map_append]; rfl
theorem dataK_len (J : JS) (ds : List ByteArray) (k : Nat) : (J.dataK ds k).length = k := by simp [JS.dataK]
theorem dataW_eq (J : JS) (ds : List ByteArray) : J.dataW ds = J.dataK ds ds.length ++ [(((J.pos (ds.length + 1) : Nat) : Int), noughts)] := rfl

set_option maxRecDepth 100000 in
set_option maxHeartbeats 2000000 in
theorem add_any (b off c : Nat) (hj : Jr 104 w a p J) (hd : Stands S w p D) (ha : ¬ S a) (ok : J.Ok D.disk.length) (hp : D.pend.length <= 800000) (hl : ds.length <= 48) (hf : J.full + ds.length + 1 <= J.log)
    (hb : b < w.heap.size) (hc : StrsAt w b off (top :: ds)) (hsb : ¬ S b) :
    Calls Tryz.prog 131 #[.pointer (some ⟨a, 0, none⟩), .slice (some ⟨b, off, none⟩) (ds.length + 1) c] w fun e w' => e = .returned (.int .i64 (J.addF D top ds).1) /\ JLeaves 104 S w w' a p (J.addF D top ds).2.1 (J.addF D top ds).2.2 := by
  obtain ⟨i0, hi, hz0, hz1, hz2⟩ := info_parts Tryz.infoW
  have HZ2 := Lib.hid hz2; clear hz2
  have hnd := hd.ok.few
  have hll := ok.l1
  have hc0 : w.cell? ⟨b, off, none⟩ = some (.string top) := hc 0 (by simp)
  have HC : Hid (∀ k (h : k < ds.length), w.cell? ⟨b, off + (k + 1), none⟩ = some (.string (ds.getD k ByteArray.empty))) := by
    intro k hk
    have := hc (k + 1) (by simpa using hk)
    rw [this]; simp [hk]
  clear hc
  have HJ := Lib.hid hj; clear hj
  have HD := Lib.hid hd; clear hd
  have HA := Lib.hid ha; clear ha
  have HOK := Lib.hid ok; clear ok
  have HSB := Lib.hid hsb; clear hsb
  have CB : Hid (∀ W i, J.full + i <= J.log -> Below w.heap.size w W -> Calls Tryz.prog 175 #[.pointer (some ⟨a, 0, none⟩), .int .i64 ((i : Nat) : Int)] W fun e w' => e = .returned (.int .i64 (J.pos i)) /\ w' = W.drew) :=
    fun W i h hW => behind_drew i (HJ.out.below hW) HOK.out hnd h
  obtain ⟨n, hn⟩ : ∃ n, ds.length = n := ⟨_, rfl⟩
  rw [hn] at hl hf HC ⊢
  have HN := Lib.hid hn; clear hn
  go_enter Tryz.func131, Tryz.ntmps131
  go_wp2_with fail
  go_loopw [5, 6] (fun wv i wr => ∃ k : Nat, k <= n /\ i = .int .i64 ((k + 1 : Nat) : Int) /\ Hid (OwnW w.heap.size wr wv (J.dataK ds k)) /\ Hid (Below w.heap.size w wr)) (fun _ i _ => n + 1 - (intOf i).toNat)
  case atStart => exact ⟨0, Nat.zero_le _, rfl, OwnW.nil _ _, Below.refl _ _⟩
  case round =>
    obtain ⟨k, hk, rfl, HO, HB⟩ := hrel
    have hbr := HB.out.size
    by_cases hlt : k < n
    . have c1r := (HB.out.cell (p := ⟨b, off + (k + 1), none⟩) hb).trans (HC.out k hlt)
      have hlen : (J.dataK ds k).length <= 48 := by rw [dataK_len]; omega
      have HSN := Lib.hid (dataK_succ J ds k)
      have CB1 : Hid (∀ W, Below w.heap.size w W -> Calls Tryz.prog 175 #[.pointer (some ⟨a, 0, none⟩), .int .i64 ((k + 1 : Nat) : Int)] W fun e w' => e = .returned (.int .i64 (J.pos (k + 1))) /\ w' = W.drew) := fun W hW => CB.out W (k + 1) (by omega) hW
      obtain ⟨M, hM⟩ : ∃ M, J.dataK ds k = M := ⟨_, rfl⟩
      rw [hM] at HO HSN hlen
      clear hM
      generalize ds.getD k ByteArray.empty = pt at *
      generalize J.pos (k + 1) = pi at *
      obtain ⟨ao2, c2, hv, _⟩ := HO.out.sl
      subst hv
      have i1 : (k : Int) + 1 < (n : Int) + 1 := by omega
      have i0' : (0 : Int) <= (k : Int) + 1 := by omega
      go_wp2_with fail
      go_region_law (first
        | (refine step_append_own rfl (.tmp 15) (.tmp 24) 49 rfl w.heap.size 63 i0 (.agg #[.int .i64 0, .string ⟨#[]⟩]) 2 24 Tryz.underlying49 hi hz0 hz1 HZ2.out rfl (by omega) (.slice ao2 M.length c2) M.length (flatI M) (by kernel_rfl) ?own ⟨wr.heap.size, 0, none⟩ 1 1 [.int .i64 (pi : Int), .string pt] (by kernel_rfl) rfl (two_cells rfl) two_one (by unfold maxLen; omega) (by omega) ?base ?_
           case own => exact World.ownsRow.alloc (w := wr) HO.out _
           case base => simp; omega
           intro v1 w3 hown hgrow
           have HO3 := Lib.hid (own_pushW hown)
           have HB3 : Hid (Below w.heap.size w w3) := (((HB.out.drew).drew).alloc hbr _).grown hgrow (by simp; omega) (fun q hq => (HO.out.lt q hq).1)
           clear hown hgrow)
        | (go_simp; go_at_call 175; refine (CB1.out _ ?_).mono ?_; exact HB.out.drew; rintro e w1 ⟨rfl, rfl⟩))
      all_goals
        go_wp2
        go_roundw
        case rel => exact ⟨k + 1, by omega, by go_num, by show OwnW _ _ _ _; rw [HSN.out]; exact HO3.out, HB3⟩
        case measure => simp [intOf]; omega
    . have hkn : k = n := by omega
      subst hkn
      have i1 : ¬ (k : Int) + 1 < (k : Int) + 1 := by omega
      have CB1 : Hid (∀ W, Below w.heap.size w W -> Calls Tryz.prog 175 #[.pointer (some ⟨a, 0, none⟩), .int .i64 ((k : Int) + 1)] W fun e w' => e = .returned (.int .i64 (J.pos (k + 1))) /\ w' = W.drew) := fun W hW => CB.out W (k + 1) (by omega) hW
      have CB0 : Hid (∀ W, Below w.heap.size w W -> Calls Tryz.prog 175 #[.pointer (some ⟨a, 0, none⟩), .int .i64 0] W fun e w' => e = .returned (.int .i64 (J.pos 0)) /\ w' = W.drew) := fun W hW => CB.out W 0 (by omega) hW
      have hlen : (J.dataK ds k).length <= 48 := by rw [dataK_len]; omega
      have HDW : Hid (J.dataW ds = J.dataK ds k ++ [(((J.pos (k + 1) : Nat) : Int), noughts)]) := by show _ = _; rw [dataW_eq, HN.out]
      obtain ⟨ao2, c2, hv, _⟩ := HO.out.sl
      subst hv
      obtain ⟨M, hM⟩ : ∃ M, J.dataK ds k = M := ⟨_, rfl⟩
      rw [hM] at HO HDW hlen ⊢
      clear hM
      obtain ⟨pn, hpn⟩ : ∃ x, J.pos (k + 1) = x := ⟨_, rfl⟩
      rw [hpn] at HDW CB1
      clear hpn
      obtain ⟨NN, hNN⟩ : ∃ x, noughts = x := ⟨_, rfl⟩
      have CN : Hid (∀ W, Calls Tryz.prog 121 #[.int .i64 256] W fun e w' => e = .returned (.string NN) /\ Below W.heap.size W w') := fun W => by rw [<- hNN]; exact jnoughts_all W
      rw [hNN] at HDW
      clear hNN
      go_wp2_with fail
      refine (CB1.out _ HB.out).mono ?_
      rintro e w1 ⟨rfl, rfl⟩
      go_wp2_with fail
      refine (CN.out _).mono ?_
      rintro e w2 ⟨rfl, hb2⟩
      have HB2 : Hid (Below wr.heap.size wr w2) := Fr.below_predrew hb2
      clear hb2
      have hbr2 := HB2.out.size
      go_wp2_with (at_builtin; go_loud (refine wpList_append_own _ rfl _ _ 49 rfl w.heap.size 63 i0 _ 2 24 Tryz.underlying49 hi hz0 hz1 HZ2.out rfl (by decide) _ _ _ rfl ((HO.out.below HB2.out).alloc _) _ 1 1 [.int .i64 (pn : Int), .string NN] rfl rfl (two_cells rfl) two_one ?c3 ?c4 ?c5 ?_))
      case c3 => unfold maxLen; omega
      case c4 => omega
      case c5 => simp; omega
      intro v1 w3 hown hgrow _
      have hO3 := own_pushW hown
      have HB3 : Hid (Below w.heap.size w w3) := ((HB.out.trans (HB2.out.mono hbr)).alloc (by omega) _).grown hgrow (by simp; omega) (fun q hq => (HO.out.lt q hq).1)
      rw [<- HDW.out] at hO3
      have HO3 := Lib.hid hO3
      clear hown hgrow hO3 HO HB2 HB CB1 CN
      have hSO : Outs S v1 := by
        intro g off' n' c' hv hg
        have h1 := (HO3.out.lt g (by rw [hv]; rfl)).1
        have h2 := HD.out.lt g hg
        omega
      have CS := Lib.hid (jsettle_any (L := J.dataW ds) (HJ.out.below HB3.out) (HD.out.below HB3.out) HA.out (by rw [HDW.out]; simp; omega) (by omega) HO3.out.sl hSO)
      have HLd : Hid ((D.stl (J.dataW ds)).2.pend.length <= 850000 /\ (D.stl (J.dataW ds)).2.disk.length = D.disk.length) := by
        have := D.stl_len (J.dataW ds)
        refine ⟨?_, D.stl_disk _⟩
        rw [HDW.out, List.length_append, List.length_singleton] at this
        rw [HDW.out]; omega
      have HAd : Hid (J.addF D top ds = if (D.stl (J.dataW ds)).1 ≠ 0 then ((D.stl (J.dataW ds)).1, (D.stl (J.dataW ds)).2, J) else
          if ((D.stl (J.dataW ds)).2.stl [(((J.pos 0 : Nat) : Int), top)]).1 ≠ 0 then (((D.stl (J.dataW ds)).2.stl [(((J.pos 0 : Nat) : Int), top)]).1, ((D.stl (J.dataW ds)).2.stl [(((J.pos 0 : Nat) : Int), top)]).2, J) else
          (0, ((D.stl (J.dataW ds)).2.stl [(((J.pos 0 : Nat) : Int), top)]).2, J.grow (k + 1))) := by
        show J.addF D top ds = _
        unfold JS.addF
        rw [HN.out]
      generalize D.stl (J.dataW ds) = R1 at *
      obtain ⟨er1, D1⟩ := R1
      simp only at CS HLd HAd
      obtain ⟨ao3, c3, hv3, _⟩ := HO3.out.sl
      subst hv3
      clear HDW HO3 hSO
      go_wp2_with fail
      refine CS.out.mono ?_
      rintro e w4 ⟨rfl, hv4⟩
      have HV4 := Lib.hid (Leaves.from HB3.out hv4); clear hv4 CS
      by_cases he1 : er1 = 0
      . have he1' : (er1 != 0) = false := by simp [he1]
        rw [if_neg (by simpa using he1)] at HAd
        obtain ⟨S4, hS4, hs4, ho4⟩ := HV4.out
        have hna : ¬ S4 a := fun h => by rcases hS4 a h with h | h; exact HA.out h; have := HJ.out.lt; omega
        have hj4 := HJ.out.only ho4 HA.out
        have hok4 : J.Ok D1.disk.length := by rw [HLd.out.2]; exact HOK.out
        have hc4 : w4.cell? ⟨b, off, none⟩ = some (.string top) := (ho4.cell (p := ⟨b, off, none⟩) hb HSB.out).trans hc0
        have CB4 : Hid (∀ W, Below w4.heap.size w4 W -> Calls Tryz.prog 175 #[.pointer (some ⟨a, 0, none⟩), .int .i64 0] W fun e w' => e = .returned (.int .i64 (J.pos 0)) /\ w' = W.drew) := fun W hW =>
          behind_drew 0 (hj4.below hW) hok4 (by rw [HLd.out.2]; exact hnd) (by omega)
        obtain ⟨R2, hR2⟩ : ∃ R, D1.stl [(((J.pos 0 : Nat) : Int), top)] = R := ⟨_, rfl⟩
        rw [hR2] at HAd
        have CS4 : Hid (∀ W, Below w4.heap.size w4 W -> Calls Tryz.prog 122 #[.pointer (some ⟨a, 0, none⟩), .slice (some ⟨W.heap.size, 0, none⟩) 1 1] (W.alloc (.cells #[.int .i64 ((J.pos 0 : Nat) : Int), .string top] 63)) fun e w' => e = .returned (.int .i64 R2.1) /\ Leaves S4 w4 w' p R2.2) := by
          intro W hW
          rw [<- hR2]
          exact (settle_one _ top (hj4.below hW) (hs4.below hW) hna (by have := HLd.out.1; omega)).mono fun e w' ⟨he, hl⟩ => ⟨he, Leaves.from hW hl⟩
        have HJ4 := Lib.hid hj4; have HS4 := Lib.hid hS4; have HSt4 := Lib.hid hs4; have HO4 := Lib.hid ho4; have HN4 := Lib.hid hna
        have HOK4 := Lib.hid hok4
        clear hj4 hS4 hs4 ho4 hna hok4
        have HD2 : Hid (R2.2.disk.length = D.disk.length) := by rw [<- hR2]; show _ = _; rw [D1.stl_disk]; exact HLd.out.2
        clear hR2 hc0 CB CB0
        obtain ⟨p0, hp0⟩ : ∃ x, J.pos 0 = x := ⟨_, rfl⟩
        rw [hp0] at CB4 CS4
        clear hp0
        obtain ⟨er2, D2⟩ := R2
        simp only at HAd CS4 HD2
        have i2 : (0 : Int) < (k : Int) + 1 := by omega
        have hb4 : b < w4.heap.size := Nat.lt_of_lt_of_le hb HO4.out.size
        have HKB : Hid (∀ w' D', Leaves S4 w4 w' p D' -> w'.cell? ⟨b, off, none⟩ = some (.string top)) := fun w' D' h => (h.only.cell (p := ⟨b, off, none⟩) hb4 (fun hs => by rcases HS4.out b hs with h | h; exact HSB.out h; omega)).trans hc4
        go_wp2_with fail
        go_region_held3 (fun W => W.cell? ⟨b, off, none⟩ = some (.string top))
          (first | exact hc4 | exact HKB.out _ _ (by assumption) | go_keep)
          (first | (go_at_call 175; refine (CB4.out _ ?_).mono ?_; exact (Below.refl _ _).drew; rintro e w' ⟨rfl, rfl⟩)
                 | (go_at_call 122; refine (CS4.out w4.drew.drew ?_).mono ?_; exact ((Below.refl _ _).drew).drew; rintro r w6 ⟨rfl, hv6⟩))
        have hj6 := HJ4.out.only hv6.only HN4.out
        by_cases he2 : er2 = 0
        . have he2' : (er2 != 0) = false := by simp [he2]
          rw [if_neg (by simpa using he2)] at HAd
          have CG := Lib.hid (grow_any (k + 1) hj6 (n := D2.disk.length) (by rw [HD2.out]; exact HOK.out) (by rw [HD2.out]; exact hnd) (by omega))
          obtain ⟨S6, hS6, hs6, ho6⟩ := hv6
          have hna6 : ¬ S6 a := fun h => by rcases hS6 a h with h | h; exact HN4.out h; have := HJ4.out.lt; omega
          have HS6 := Lib.hid hS6; have HSt6 := Lib.hid hs6; have HO6 := Lib.hid ho6; have HN6 := Lib.hid hna6
          clear hS6 hs6 ho6 hna6 hj6
          go_wp2_with fail
          refine CG.out.mono ?_
          rintro e w7 ⟨rfl, hj7, ho7, hz7⟩
          have HJ7 := Lib.hid hj7; have HO7 := Lib.hid ho7
          clear hj7 ho7 hz7 CG
          go_wp2
          go_ret
          refine ⟨by rw [HAd.out]; rfl, ?_⟩
          rw [HAd.out]
          exact JLeaves.next HS4.out (HO4.out.mono (fun _ _ h => .inl h)) ⟨S6, HS6.out, HSt6.out.kept HO7.out (fun k hk hka => HN6.out (hka ▸ hk)), HJ7.out, (HO6.out.mono (T := fun k => S4 k \/ k = a) (fun _ _ h => .inl h)).trans HO7.out (fun _ _ h => .inr h)⟩
        . have he2' : (er2 != 0) = true := by simp [he2]
          rw [if_pos (by simpa using he2)] at HAd
          have HF : Hid (JLeaves 104 S w w6 a p D2 J) := JLeaves.next HS4.out (HO4.out.mono (fun _ _ h => .inl h)) (JLeaves.of hv6 HJ4.out HN4.out)
          clear hj6 hv6
          go_wp2
          go_ret
          exact ⟨by rw [HAd.out]; rfl, by rw [HAd.out]; exact HF.out⟩
      . have he1' : (er1 != 0) = true := by simp [he1]
        rw [if_pos (by simpa using he1)] at HAd
        have HF : Hid (JLeaves 104 S w w4 a p D1 J) := JLeaves.of HV4.out HJ.out HA.out
        go_wp2
        go_ret
        exact ⟨by rw [HAd.out]; rfl, by rw [HAd.out]; exact HF.out⟩
end
end Go.Proofs.YthambopnmhkeeaaGreat
/- What Commit answers and leaves behind, for every journal over every device. -/
namespace Go.Proofs.YthambopnmhkeeaaGreat
open Go.RowKit
open Fr (SlW SlS WritesAt StrsAt OwnS)

section
variable {S S1 T : Nat -> Prop} {w w1 w2 w' : World} {a p : Nat} {J J1 J2 : JS} {D D1 D2 : DevS} {v : Value} {L : List (Int × ByteArray)}

theorem Outs.or_ne (h : Outs S v) (ha : ∀ g off n c, v = .slice (some ⟨g, off, none⟩) n c -> g ≠ a) : Outs (fun k => S k \/ k = a) v := fun g off n c hv hs => by
  rcases hs with hs | hs
  . exact h g off n c hv hs
  . exact ha g off n c hv hs
theorem Outs.grown {w : World} (h : Outs S v) (hl : ∀ g off n c, v = .slice (some ⟨g, off, none⟩) n c -> g < w.heap.size) (hS : ∀ k, S1 k -> S k \/ w.heap.size <= k) : Outs S1 v := fun g off n c hv hs => by
  rcases hS g hs with h1 | h1
  . exact h g off n c hv h1
  . have := hl g off n c hv; omega
theorem JS.wrok_frame {n : Nat} (hn : n <= 4096) {x : Int × ByteArray} (h : J.WrOk n x) : Fr.WrOk x := by
  obtain ⟨h1, h2, h3⟩ := h
  unfold JS.home at h1
  exact ⟨by omega, by omega, h3⟩
structure Lies (w : World) (a : Nat) (v : Value) : Prop where
  lt : ∀ g off n c, v = .slice (some ⟨g, off, none⟩) n c -> g < w.heap.size
  ne : ∀ g off n c, v = .slice (some ⟨g, off, none⟩) n c -> g ≠ a

set_option maxRecDepth 100000 in
set_option maxHeartbeats 2000000 in
theorem commit_any (hj : Jr 104 w a p J) (hd : Stands S w p D) (ha : ¬ S a) (ok : J.Ok D.disk.length) (hp : D.pend.length <= 700000) (hl : L.length <= 1000) (hs : ∀ x ∈ L, x.2.size <= maxLen) (h : SlW w v L) (hou : Outs S v) (hli : Lies w a v) :
    Calls Tryz.prog 73 #[.pointer (some ⟨a, 0, none⟩), v] w fun e w' => e = .returned (.int .i64 (J.commit D L).1) /\ JLeaves 104 S w w' a p (J.commit D L).2.1 (J.commit D L).2.2 := by
  have CC := Lib.hid (jcheck_any hj hd ok hl hs h)
  have hnd := hd.ok.few
  have hsh := h
  obtain ⟨lao, lc, rfl, _⟩ := hsh
  have HJ := Lib.hid hj; clear hj
  have HD := Lib.hid hd; clear hd
  have HA := Lib.hid ha; clear ha
  have HOK := Lib.hid ok; clear ok
  have HSl := Lib.hid h; clear h
  have HOu := Lib.hid hou; clear hou
  have HLi := Lib.hid hli; clear hli
  by_cases hc : J.chk D.disk.length L = 0
  . obtain ⟨l1, l2, hw⟩ := (J.chk_ok _ L).1 hc
    have HPk : Hid (Fr.pk J.next L = (Fr.packL J.next L, 0)) := by
      show _ = _
      unfold Fr.pk
      rw [if_pos ((Fr.chk_ok L).2 ⟨l1, l2, fun x hx => JS.wrok_frame hnd (hw x hx)⟩)]
    have CP : Hid (∀ W, Below w.heap.size w W -> Calls Tryz.prog 129 #[.int .u64 (J.next : Int), .slice lao L.length lc] W fun e w' => ∃ u, e = .returned (.tuple #[u, .int .i64 0]) /\ OwnS W.heap.size w' u (Fr.packL J.next L) /\ Below W.heap.size W w') := fun W hW => by
      have := Fr.pack_any J.next L _ W HOK.out.n64 hl hs (HSl.out.below hW)
      rw [HPk.out] at this
      exact this
    have HCm0 : Hid (J.commit D L = (fun c : Int × DevS × JS => if c.1 ≠ 0 then c else if (c.2.2.addF c.2.1 (Fr.bs (Fr.topL J.next L)) (L.map (·.2))).1 ≠ 0 then c.2.2.addF c.2.1 (Fr.bs (Fr.topL J.next L)) (L.map (·.2)) else
        (((c.2.2.addF c.2.1 (Fr.bs (Fr.topL J.next L)) (L.map (·.2))).2.1.wrs L).1, ((c.2.2.addF c.2.1 (Fr.bs (Fr.topL J.next L)) (L.map (·.2))).2.1.wrs L).2, (c.2.2.addF c.2.1 (Fr.bs (Fr.topL J.next L)) (L.map (·.2))).2.2)) (if J.left < L.length + 2 then J.ckp D else (0, D, J))) := by
      show _ = _
      unfold JS.commit
      rw [if_neg (by simpa using hc)]
    rw [hc] at CC
    have c6 := HJ.out.c6
    have HW := Lib.hid hw
    clear hc hs hw HPk
    go_enter Tryz.func73, Tryz.ntmps73
    go_wp2_with fail
    refine CC.out.mono ?_
    rintro e w1 ⟨rfl, hb1⟩
    have HB1 := Lib.hid hb1; clear hb1 CC
    have c6' := (HB1.out.cell (p := ⟨a, 6, none⟩) HJ.out.lt).trans c6
    clear c6
    go_wp2_with fail
    refine (CP.out _ HB1.out).mono ?_
    rintro e w2 ⟨u, rfl, hu2, hb2⟩
    have HB2 := Lib.hid (HB1.out.trans (hb2.mono HB1.out.size))
    obtain ⟨g, c4, hv, hcap, hgb, hg2, hst, _⟩ := hu2.here (by simp [Fr.packL])
    have hlp : (Fr.packL J.next L).length = L.length + 1 := by simp [Fr.packL]
    rw [hlp] at hv hcap
    subst hv
    have hgw : w.heap.size <= g := Nat.le_trans HB1.out.size hgb
    have HRow := Lib.hid hst
    have hmB := HB1.out.size
    clear hu2 hb2 hst hlp HB1 c6'
    have CL := Lib.hid (left_drew (HJ.out.below HB2.out) HOK.out hnd)
    have hlf := HOK.out.fu
    have hlog := HOK.out.l1
    have hleft : J.left = J.log - J.full := rfl
    by_cases hlt : J.left < L.length + 2
    . rw [if_pos hlt] at HCm0
      have CK : Hid (∀ W, Below w2.heap.size w2 W -> Calls Tryz.prog 126 #[.pointer (some ⟨a, 0, none⟩)] W fun e w' => e = .returned (.int .i64 (J.ckp D).1) /\ JLeaves 104 S w2 w' a p (J.ckp D).2.1 (J.ckp D).2.2) := fun W hW =>
        (ckp_any ((HJ.out.below HB2.out).below hW) ((HD.out.below HB2.out).below hW) HA.out HOK.out (by omega)).mono fun e w' ⟨he, hv⟩ => ⟨he, JLeaves.from hW hv⟩
      have HCd : Hid ((J.ckp D).2.1.disk.length = D.disk.length /\ (J.ckp D).2.1.pend.length <= 710000 /\ ((J.ckp D).1 = 0 -> (J.ckp D).2.2 = J.next')) := ⟨JS.ckp_disk, by have := JS.ckp_len (J := J) (D := D); omega, JS.ckp_good⟩
      generalize J.ckp D = R1 at *
      obtain ⟨er1, D0, J0⟩ := R1
      simp only at CK HCd HCm0
      have hlt' : (J.left : Int) < (L.length : Int) + 1 + 1 := by omega
      go_wp2_with fail
      refine CL.out.mono ?_
      rintro e w3 ⟨rfl, rfl⟩
      go_wp2_with fail
      refine (CK.out _ ((Below.refl _ _).drew)).mono ?_
      rintro e w4 ⟨rfl, hv4⟩
      obtain ⟨S0, hS0, hs0, hj0, ho0⟩ := hv4
      have hS0' : ∀ k, S0 k -> S k \/ w.heap.size <= k := fun k hk => by rcases hS0 k hk with h | h; exact .inl h; exact .inr (by have := HB2.out.size; omega)
      have hO0' : Only (fun k => S k \/ k = a) w w4 := (Only.of_below _ HB2.out (Nat.le_refl _)).trans ho0 (fun _ _ h => h)
      by_cases he1 : er1 = 0
      . have he1' : (er1 != 0) = false := by simp [he1]
        rw [if_neg (by simpa using he1)] at HCm0
        obtain ⟨hk1, hk2, hk3⟩ := HCd.out
        have hJ0 := hk3 he1
        have HCm := HCm0; clear HCm0
        have HJ0 := Lib.hid hj0; have HD0 := Lib.hid hs0
        have HN0 : Hid (¬ S0 a) := fun h => by rcases hS0 a h with h | h; exact HA.out h; have := (HJ.out.below HB2.out).lt; omega
        have HOK0 : Hid (J0.Ok D0.disk.length) := by show J0.Ok _; rw [hk1, hJ0]; exact HOK.out.next'
        have HDk0 := Lib.hid hk1
        have hfu0 : J0.full = 0 /\ J0.log = J.log := by rw [hJ0]; exact ⟨rfl, rfl⟩
        have hl50 := HOK.out.l0
        have hng : ¬ (S g \/ g = a) := fun h => by rcases h with h | h; have := HD.out.lt _ h; omega; have := HJ.out.lt; omega
        have hg0 : g < w4.heap.size := Nat.lt_of_lt_of_le hg2 ho0.size
        have HNg : Hid (¬ S0 g) := fun h => by rcases hS0 g h with h | h; exact hng (.inl h); omega
        have HRow0 : Hid (StrsAt w4 g 0 (Fr.bs (Fr.topL J.next L) :: L.map (·.2))) := fun j hj => (ho0.cell (p := ⟨g, 0 + j, none⟩) hg2 hng).trans (HRow.out j hj)
        have HSl0 : Hid (SlW w4 (.slice lao L.length lc) L) := SlW.only HSl.out hO0' (HOu.out.or_ne HLi.out.ne)
        have HOu0 : Hid (Outs S0 (.slice lao L.length lc)) := HOu.out.grown HLi.out.lt hS0'
        have HNa0 := Lib.hid HLi.out.ne
        have HLt0 : Hid (∀ g off n c, (Value.slice lao L.length lc) = .slice (some ⟨g, off, none⟩) n c -> g < w4.heap.size) := fun g off n c hv => Nat.lt_of_lt_of_le (HLi.out.lt g off n c hv) hO0'.size
        have HS0 := Lib.hid hS0'; have HO0 := Lib.hid hO0'
        clear hj0 hs0 hS0 hS0' ho0 hO0' hk3 hJ0 hng CK CL HRow CP
        have hf0 : J0.full + (L.map (·.2)).length + 1 <= J0.log := by rw [List.length_map]; omega
        have CA := Lib.hid (add_any (ds := L.map (·.2)) (top := Fr.bs (Fr.topL J.next L)) g 0 c4 HJ0.out HD0.out HN0.out HOK0.out (by omega) (by rw [List.length_map]; omega) hf0 hg0 HRow0.out HNg.out)
        rw [List.length_map] at CA
        have HX : Hid ((J0.addF D0 (Fr.bs (Fr.topL J.next L)) (L.map (·.2))).2.1.disk.length = D.disk.length /\ (J0.addF D0 (Fr.bs (Fr.topL J.next L)) (L.map (·.2))).2.1.pend.length <= 800000) := by
          refine ⟨JS.addF_disk.trans HDk0.out, ?_⟩
          have := JS.addF_len (J := J0) (D := D0) (top := Fr.bs (Fr.topL J.next L)) (ds := L.map (·.2))
          rw [List.length_map] at this
          omega
        generalize J0.addF D0 (Fr.bs (Fr.topL J.next L)) (L.map (·.2)) = R2 at *
        obtain ⟨er2, D2, J2⟩ := R2
        simp only at CA HX HCm
        go_wp2_with fail
        refine CA.out.mono ?_
        rintro e w5 ⟨rfl, hv5⟩
        obtain ⟨S5, hS5, hs5, hj5, ho5⟩ := hv5
        by_cases he2 : er2 = 0
        . have he2' : (er2 != 0) = false := by simp [he2]
          rw [if_neg (by simpa using he2)] at HCm
          have hn5 : ¬ S5 a := fun h => by rcases hS5 a h with h | h; exact HN0.out h; have := HJ0.out.lt; omega
          have hsl5 : Fr.SlW w5 (.slice lao L.length lc) L := SlW.only HSl0.out ho5 (HOu0.out.or_ne HNa0.out)
          have hou5 : Outs S5 (.slice lao L.length lc) := HOu0.out.grown HLt0.out hS5
          have CW := Lib.hid (writeAll_any hj5 hs5 hn5 (by omega) (by have := HX.out.2; omega) hsl5 hou5)
          have HF : Hid (∀ w' , Leaves S5 w5 w' p (D2.wrs L).2 -> JLeaves 104 S w w' a p (D2.wrs L).2 J2) := fun w' h => JLeaves.next HS0.out HO0.out (JLeaves.next hS5 ho5 (JLeaves.of h hj5 hn5))
          clear hS5 hs5 hj5 ho5 hn5 hsl5 hou5
          go_wp2_with fail
          refine CW.out.mono ?_
          rintro e w6 ⟨rfl, hv6⟩
          have HF2 := Lib.hid (HF.out _ hv6); clear hv6
          go_wp2
          go_ret
          exact ⟨by rw [HCm.out]; rfl, by rw [HCm.out]; exact HF2.out⟩
        . have he2' : (er2 != 0) = true := by simp [he2]
          rw [if_pos (by simpa using he2)] at HCm
          have HF : Hid (JLeaves 104 S w w5 a p D2 J2) := JLeaves.next HS0.out HO0.out ⟨S5, hS5, hs5, hj5, ho5⟩
          clear hS5 hs5 hj5 ho5
          go_wp2
          go_ret
          exact ⟨by rw [HCm.out]; rfl, by rw [HCm.out]; exact HF.out⟩
      . have he1' : (er1 != 0) = true := by simp [he1]
        rw [if_pos (by simpa using he1)] at HCm0
        have HF : Hid (JLeaves 104 S w w4 a p D0 J0) := ⟨S0, hS0', hs0, hj0, hO0'⟩
        clear hS0 hs0 hj0 ho0 hS0' hO0'
        go_wp2
        go_ret
        exact ⟨by rw [HCm0.out]; rfl, by rw [HCm0.out]; exact HF.out⟩
    . rw [if_neg hlt] at HCm0
      have HCm : Hid (J.commit D L = if (J.addF D (Fr.bs (Fr.topL J.next L)) (L.map (·.2))).1 ≠ 0 then J.addF D (Fr.bs (Fr.topL J.next L)) (L.map (·.2)) else
        (((J.addF D (Fr.bs (Fr.topL J.next L)) (L.map (·.2))).2.1.wrs L).1, ((J.addF D (Fr.bs (Fr.topL J.next L)) (L.map (·.2))).2.1.wrs L).2, (J.addF D (Fr.bs (Fr.topL J.next L)) (L.map (·.2))).2.2)) := HCm0.out
      clear HCm0
      have hlt' : ¬ (J.left : Int) < (L.length : Int) + 1 + 1 := by omega
      go_wp2_with fail
      refine CL.out.mono ?_
      rintro e w3 ⟨rfl, rfl⟩
      obtain ⟨w4, hw4⟩ : ∃ W, w2.drew = W := ⟨_, rfl⟩
      have hb4 : Below w2.heap.size w2 w4 := by rw [<- hw4]; exact (Below.refl _ _).drew
      have hB4 : Below w.heap.size w w4 := HB2.out.trans (hb4.mono HB2.out.size)
      rw [hw4]
      clear hw4
      have HJ0 : Hid (Jr 104 w4 a p J) := HJ.out.below hB4
      have HD0 : Hid (Stands S w4 p D) := HD.out.below hB4
      have HN0 := HA
      have HOK0 := HOK
      have HDk0 : Hid (D.disk.length = D.disk.length) := rfl
      have hng : ¬ S g := fun h => by have := HD.out.lt _ h; omega
      have HNg := Lib.hid hng
      have hg0 : g < w4.heap.size := Nat.lt_of_lt_of_le hg2 hb4.size
      have HRow0 : Hid (StrsAt w4 g 0 (Fr.bs (Fr.topL J.next L) :: L.map (·.2))) := fun j hj => (hb4.cell (p := ⟨g, 0 + j, none⟩) hg2).trans (HRow.out j hj)
      have HSl0 : Hid (SlW w4 (.slice lao L.length lc) L) := HSl.out.below hB4
      have HOu0 := HOu
      have HNa0 := Lib.hid HLi.out.ne
      have HLt0 : Hid (∀ g off n c, (Value.slice lao L.length lc) = .slice (some ⟨g, off, none⟩) n c -> g < w4.heap.size) := fun g off n c hv => Nat.lt_of_lt_of_le (HLi.out.lt g off n c hv) hB4.size
      have HS0 : Hid (∀ k, S k -> S k \/ w.heap.size <= k) := fun _ h => .inl h
      have HO0 : Hid (Only (fun k => S k \/ k = a) w w4) := Only.of_below _ hB4 (Nat.le_refl _)
      clear hng hb4 hB4 CL HRow CP
      have hf0 : J.full + (L.map (·.2)).length + 1 <= J.log := by rw [List.length_map]; omega
      have CA := Lib.hid (add_any (ds := L.map (·.2)) (top := Fr.bs (Fr.topL J.next L)) g 0 c4 HJ0.out HD0.out HN0.out HOK0.out (by omega) (by rw [List.length_map]; omega) hf0 hg0 HRow0.out HNg.out)
      rw [List.length_map] at CA
      have HX : Hid ((J.addF D (Fr.bs (Fr.topL J.next L)) (L.map (·.2))).2.1.disk.length = D.disk.length /\ (J.addF D (Fr.bs (Fr.topL J.next L)) (L.map (·.2))).2.1.pend.length <= 800000) := by
        refine ⟨JS.addF_disk.trans HDk0.out, ?_⟩
        have := JS.addF_len (J := J) (D := D) (top := Fr.bs (Fr.topL J.next L)) (ds := L.map (·.2))
        rw [List.length_map] at this
        omega
      generalize J.addF D (Fr.bs (Fr.topL J.next L)) (L.map (·.2)) = R2 at *
      obtain ⟨er2, D2, J2⟩ := R2
      simp only at CA HX HCm
      go_wp2_with fail
      refine CA.out.mono ?_
      rintro e w5 ⟨rfl, hv5⟩
      obtain ⟨S5, hS5, hs5, hj5, ho5⟩ := hv5
      by_cases he2 : er2 = 0
      . have he2' : (er2 != 0) = false := by simp [he2]
        rw [if_neg (by simpa using he2)] at HCm
        have hn5 : ¬ S5 a := fun h => by rcases hS5 a h with h | h; exact HN0.out h; have := HJ0.out.lt; omega
        have hsl5 : Fr.SlW w5 (.slice lao L.length lc) L := SlW.only HSl0.out ho5 (HOu0.out.or_ne HNa0.out)
        have hou5 : Outs S5 (.slice lao L.length lc) := HOu0.out.grown HLt0.out hS5
        have CW := Lib.hid (writeAll_any hj5 hs5 hn5 (by omega) (by have := HX.out.2; omega) hsl5 hou5)
        have HF : Hid (∀ w' , Leaves S5 w5 w' p (D2.wrs L).2 -> JLeaves 104 S w w' a p (D2.wrs L).2 J2) := fun w' h => JLeaves.next HS0.out HO0.out (JLeaves.next hS5 ho5 (JLeaves.of h hj5 hn5))
        clear hS5 hs5 hj5 ho5 hn5 hsl5 hou5
        go_wp2_with fail
        refine CW.out.mono ?_
        rintro e w6 ⟨rfl, hv6⟩
        have HF2 := Lib.hid (HF.out _ hv6); clear hv6
        go_wp2
        go_ret
        exact ⟨by rw [HCm.out]; rfl, by rw [HCm.out]; exact HF2.out⟩
      . have he2' : (er2 != 0) = true := by simp [he2]
        rw [if_pos (by simpa using he2)] at HCm
        have HF : Hid (JLeaves 104 S w w5 a p D2 J2) := JLeaves.next HS0.out HO0.out ⟨S5, hS5, hs5, hj5, ho5⟩
        clear hS5 hs5 hj5 ho5
        go_wp2
        go_ret
        exact ⟨by rw [HCm.out]; rfl, by rw [HCm.out]; exact HF.out⟩
  . have HCm : Hid (J.commit D L = ((J.chk D.disk.length L : Int), D, J)) := by show _ = _; unfold JS.commit; rw [if_pos (by simpa using hc)]
    have hne : (((J.chk D.disk.length L : Nat) : Int) != 0) = true := by simp; omega
    have HF : Hid (∀ w', Below w.heap.size w w' -> JLeaves 104 S w w' a p D J) := fun w' hb => (JLeaves.refl HD.out HJ.out).below hb
    generalize J.chk D.disk.length L = er at *
    clear hc hs
    go_enter Tryz.func73, Tryz.ntmps73
    go_wp2_with fail
    refine CC.out.mono ?_
    rintro e w1 ⟨rfl, hb1⟩
    have HF2 := Lib.hid (HF.out _ hb1); clear hb1 CC
    go_wp2
    go_ret
    exact ⟨by rw [HCm.out]; rfl, by rw [HCm.out]; exact HF2.out⟩
end
end Go.Proofs.YthambopnmhkeeaaGreat
/- What redo answers and leaves behind: the log's frames, done at home, in order. -/
namespace Go.Proofs.YthambopnmhkeeaaGreat
open Go.RowKit
open Fr (SlW SlS WritesAt StrsAt OwnS OwnW nmAt hd unp headB)

section
variable {S : Nat -> Prop} {w w' : World} {a p : Nat} {J : JS} {D : DevS}

theorem unp_len (s : ByteArray) (l : List ByteArray) : (unp (s :: l)).2.1.length <= l.length := by
  rw [Fr.unp_cons]
  split
  . split
    . show ((Fr.blocksOf s.data.toList).zip (l.take (nmAt s.data.toList 12))).length <= _
      rw [List.length_zip, List.length_take]; omega
    . exact Nat.zero_le _
  . exact Nat.zero_le _
theorem frameOf_some {ws : List (Int × ByteArray)} (h : J.frameOf D = some ws) : 1 <= ws.length /\ ws.length <= 48 /\ ws.length + 1 <= J.left /\ J.chk D.disk.length ws = 0 := by
  unfold JS.frameOf at h
  split at h
  . rename_i h1
    cases h
    have h2 := (J.chk_ok _ _).1 h1.2.2.2.2
    have h3 := unp_len (D.rdB (J.pos 0)) ((List.range (nmAt (D.rdB (J.pos 0)).data.toList 12)).map fun i => D.rdB (J.pos (i + 1)))
    rw [List.length_map, List.length_range] at h3
    have h4 : (unp (J.frameAt D)).2.1.length <= nmAt (D.rdB (J.pos 0)).data.toList 12 := h3
    exact ⟨h2.1, h2.2.1, by omega, h1.2.2.2.2⟩
  . cases h
theorem redoN_none (m : Nat) (h : J.frameOf D = none) : J.redoN D (m + 1) = (0, D, J) := by
  show (match J.frameOf D with | none => _ | some ws => _) = _
  rw [h]
theorem redoN_some (m : Nat) {ws : List (Int × ByteArray)} (h : J.frameOf D = some ws) : J.redoN D (m + 1) = if (D.wrs ws).1 ≠ 0 then ((D.wrs ws).1, (D.wrs ws).2, J.grow (ws.length + 1)) else (J.grow (ws.length + 1)).redoN (D.wrs ws).2 m := by
  show (match J.frameOf D with | none => _ | some ws => _) = _
  rw [h]

def RedoI (t : TypeId) (S : Nat -> Prop) (w : World) (a p : Nat) (J : JS) (D : DevS) (m : Nat) (wr : World) : Prop :=
  ∃ (Jk : JS) (Dk : DevS), Jk.redoN Dk m = J.redo D /\ Jk.left < m /\ Jk.Ok D.disk.length /\ Dk.dead = false /\ Dk.disk.length = D.disk.length /\ Dk.pend.length + Jk.left <= D.pend.length + J.log /\ JLeaves t S w wr a p Dk Jk

set_option maxRecDepth 100000 in
set_option maxHeartbeats 2000000 in
theorem redo_any (hj : Jr 104 w a p J) (hd : Stands S w p D) (ha : ¬ S a) (ok : J.Ok D.disk.length) (hde : D.dead = false) (hp : D.pend.length <= 700000) :
    Calls Tryz.prog 125 #[.pointer (some ⟨a, 0, none⟩)] w fun e w' => e = .returned (.int .i64 (J.redo D).1) /\ JLeaves 104 S w w' a p (J.redo D).2.1 (J.redo D).2.2 := by
  have hnd := hd.ok.few
  have hll := ok.l1
  have HA := Lib.hid ha; clear ha
  have HI : Hid (RedoI 104 S w a p J D (J.log + 1) w) :=
    ⟨J, D, rfl, by unfold JS.left; omega, ok, hde, rfl, by unfold JS.left; omega, JLeaves.refl hd hj⟩
  have hJl := hj.lt
  clear hj hd ok hde
  go_enter Tryz.func125, Tryz.ntmps125
  go_wp2_with fail
  go_loopg [4] (J.log + 1) (fun m u wr => Hid (RedoI 104 S w a p J D m wr))
  case atStart => exact HI
  case round =>
    clear HI
    obtain ⟨Jk, Dk, he, hm, hok, hde, hdk, hpk, hlv⟩ := hrel.out
    clear hrel
    obtain ⟨m, rfl⟩ : ∃ m, gk = m + 1 := ⟨gk - 1, by omega⟩
    obtain ⟨S1, hS1, hs1, hj1, ho1⟩ := hlv
    have hal : a < w.heap.size := hJl
    have hna : ¬ S1 a := fun h => by rcases hS1 a h with h | h; exact HA.out h; omega
    have hok1 : Jk.Ok Dk.disk.length := by rw [hdk]; exact hok
    have CX := Lib.hid (next_any hj1 hs1 hok1 hde (by omega))
    have hleft : Jk.left <= 4096 := by have := hok.l1; unfold JS.left; omega
    cases hfr : Jk.frameOf Dk with
    | none =>
      have HR : Hid (J.redo D = (0, Dk, Jk)) := by show _ = _; rw [<- he]; exact redoN_none m hfr
      have HF : Hid (∀ w2, Below wr.heap.size wr w2 -> JLeaves 104 S w w2 a p Dk Jk) := fun w2 hb => JLeaves.below ⟨S1, hS1, hs1, hj1, ho1⟩ hb
      rw [hfr] at CX
      clear he hm hok hde hdk hpk hS1 hs1 hj1 ho1 hna hok1 hfr hleft
      go_wp2_with fail
      refine CX.out.mono ?_
      rintro e w2 ⟨u, rfl, hu, hb⟩
      have HF2 := Lib.hid (HF.out _ hb); clear hb
      have hsh := own_shape hu
      clear hu
      obtain ⟨ao, c, rfl⟩ := hsh
      simp only [Option.getD_none, List.length_nil]
      go_wp2
      go_ret
      exact ⟨by rw [HR.out]; rfl, by rw [HR.out]; exact HF2.out⟩
    | some ws =>
      obtain ⟨f1, f2, f3, f4⟩ := frameOf_some hfr
      have hE := redoN_some m hfr
      rw [he] at hE
      rw [hfr] at CX
      have hok2 : (Jk.grow (ws.length + 1)).Ok D.disk.length := hok.grow _ (by unfold JS.left at f3; have := hok.fu; omega)
      have hl2 : (Jk.grow (ws.length + 1)).left = Jk.left - (ws.length + 1) := by unfold JS.left JS.grow; simp only; omega
      have hwl := Dk.wrs_len ws
      have hwd := Dk.wrs_disk ws
      have hwlive := Dk.wrs_live ws hde
      have HE := Lib.hid hE
      have HS1 := Lib.hid hS1; have HO1 := Lib.hid ho1; have HSt1 := Lib.hid hs1; have HJ1 := Lib.hid hj1; have HNA := Lib.hid hna
      have HOK := Lib.hid hok1; have HOK2 := Lib.hid hok2
      have HWd := Lib.hid hwd; have HWl := Lib.hid hwlive
      have HDk := Lib.hid hdk
      clear hE he hS1 ho1 hs1 hj1 hna hok1 hok2 hok hde hfr hdk hwd hwlive f4
      simp only [Option.getD_some] at CX
      go_wp2_with fail
      refine CX.out.mono ?_
      rintro e w2 ⟨u, rfl, hu, hb⟩
      have HB2 := Lib.hid hb; have HU2 := Lib.hid hu
      clear hb hu CX
      have hsh := own_shape HU2.out
      obtain ⟨ao, c, hv⟩ := hsh
      subst hv
      have f1' : (((ws.length : Nat) : Int) == 0) = false := beq_eq_false_iff_ne.2 (by omega)
      have hj2 := HJ1.out.below HB2.out
      have CG := Lib.hid (grow_any (ws.length + 1) hj2 HOK.out (by rw [HDk.out]; exact hnd) (by omega))
      have hcast : ((ws.length + 1 : Nat) : Int) = (ws.length : Int) + 1 := by omega
      rw [hcast] at CG
      clear hcast
      have hs2 := HSt1.out.below HB2.out
      have HJ2 := Lib.hid hj2; have HSt2 := Lib.hid hs2
      clear hj2 hs2
      go_wp2_with fail
      refine CG.out.mono ?_
      rintro e w3 ⟨rfl, hj3, ho3, _⟩
      have hs3 : Stands S1 w3 p Dk := HSt2.out.kept ho3 (fun k hk hka => HNA.out (hka ▸ hk))
      have hou : ∀ g off n' c', Value.slice ao ws.length c = .slice (some ⟨g, off, none⟩) n' c' -> wr.heap.size <= g := fun g off n' c' hv => (HU2.out.lt g (by rw [hv]; rfl)).1
      have hsl3 : SlW w3 (.slice ao ws.length c) ws := SlW.only HU2.out.sl ho3 (fun g off n' c' hv hg => by have := hou g off n' c' hv; have := HJ1.out.lt; omega)
      have hout : Outs S1 (.slice ao ws.length c) := fun g off n' c' hv hg => by have := hou g off n' c' hv; have := HSt1.out.lt _ hg; omega
      have CW := Lib.hid (writeAll_any hj3 hs3 HNA.out (by omega) (by omega) hsl3 hout)
      have HF : Hid (∀ w4, Leaves S1 w3 w4 p (Dk.wrs ws).2 -> JLeaves 104 S w w4 a p (Dk.wrs ws).2 (Jk.grow (ws.length + 1))) := fun w4 h => by
        refine JLeaves.next HS1.out HO1.out (JLeaves.from HB2.out (JLeaves.next (fun _ h => .inl h) (ho3.mono (fun _ _ h => .inr h)) (JLeaves.of h hj3 HNA.out)))
      clear hj3 hs3 ho3 hou hsl3 hout CG
      generalize Dk.wrs ws = R at *
      obtain ⟨er, DR⟩ := R
      simp only at HE CW HF HWd HWl hwl
      by_cases her : er = 0
      . have her' : (er != 0) = false := by simp [her]
        rw [if_neg (by simpa using her)] at HE
        go_wp2_with fail
        refine CW.out.mono ?_
        rintro e w4 ⟨rfl, hv4⟩
        have HF4 := Lib.hid (HF.out _ hv4); clear hv4
        go_wp2
        go_roundg m
        case measure => exact Nat.lt_succ_self m
        case rel =>
          refine ⟨_, _, HE.out.symm, ?_, HOK2.out, HWl.out her, ?_, ?_, HF4.out⟩
          . rw [hl2]; omega
          . rw [HWd.out]; exact HDk.out
          . rw [hl2]; omega
      . have her' : (er != 0) = true := by simp [her]
        rw [if_pos (by simpa using her)] at HE
        go_wp2_with fail
        refine CW.out.mono ?_
        rintro e w4 ⟨rfl, hv4⟩
        have HF4 := Lib.hid (HF.out _ hv4); clear hv4
        go_wp2
        go_ret
        exact ⟨by rw [HE.out]; rfl, by rw [HE.out]; exact HF4.out⟩
end
end Go.Proofs.YthambopnmhkeeaaGreat
/- What findSlot answers and leaves behind: the slot that counts. -/
namespace Go.Proofs.YthambopnmhkeeaaGreat
open Go.RowKit

section
variable {S : Nat -> Prop} {w w' : World} {a p : Nat} {J : JS} {D : DevS}

def DevS.best (D : DevS) : Nat -> Option ((Nat × Nat × Nat × Nat) × Nat)
  | 0 => none
  | k + 1 => match D.slotAt k with
    | none => D.best k
    | some x => match D.best k with
      | none => some (x, k)
      | some y => if y.1.1 < x.1 then some (x, k) else some y
def bestJ : Option ((Nat × Nat × Nat × Nat) × Nat) -> JS
  | none => ⟨0, 0, 0, 0, 0, 0, 0⟩
  | some x => ⟨x.1.1, x.1.2.1, x.1.2.2.1, x.1.2.2.2, x.2, 0, 0⟩
theorem find_best (D : DevS) : D.find = (D.best 2).map (fun x => slotJ x.1 x.2) := by
  unfold DevS.find
  show _ = Option.map _ (match D.slotAt 1 with | none => D.best 1 | some x => match D.best 1 with | none => some (x, 1) | some y => if y.1.1 < x.1 then some (x, 1) else some y)
  have h1 : D.best 1 = match D.slotAt 0 with | none => none | some x => some (x, 0) := by
    show (match D.slotAt 0 with | none => D.best 0 | some x => match D.best 0 with | none => some (x, 0) | some y => if y.1.1 < x.1 then some (x, 0) else some y) = _
    rfl
  rw [h1]
  cases D.slotAt 0 with
  | none => cases D.slotAt 1 <;> rfl
  | some x =>
    cases D.slotAt 1 with
    | none => rfl
    | some y =>
      show (if x.1 < y.1 then _ else _) = Option.map _ (if x.1 < y.1 then _ else _)
      split <;> rfl
theorem best_one (D : DevS) (h : D.disk.length = 1) : D.best 2 = D.best 1 := by
  have : D.slotAt 1 = none := by unfold DevS.slotAt; rw [if_neg (by omega)]
  show (match D.slotAt 1 with | none => D.best 1 | some x => _) = _
  rw [this]
theorem best_none (D : DevS) (k : Nat) (h : D.slotAt k = none) : D.best (k + 1) = D.best k := by
  show (match D.slotAt k with | none => D.best k | some x => _) = _
  rw [h]
theorem best_some (D : DevS) (k : Nat) {x : Nat × Nat × Nat × Nat} (h : D.slotAt k = some x) : D.best (k + 1) = match D.best k with | none => some (x, k) | some y => if y.1.1 < x.1 then some (x, k) else some y := by
  show (match D.slotAt k with | none => D.best k | some x => _) = _
  rw [h]

set_option maxRecDepth 100000 in
set_option maxHeartbeats 2000000 in
theorem find_dead (hj : Jr 104 w a p J) (hd : Stands S w p D) (hde : D.dead = true) (hp : D.pend.length <= 1000000) :
    Calls Tryz.prog 124 #[.pointer (some ⟨a, 0, none⟩)] w fun e w' => e = .returned (.int .i64 4) /\ Below w.heap.size w w' := by
  have h1 := hd.ok.some
  have hnd := hd.ok.few
  have hr : D.rd 0 = (ByteArray.empty, 4) := by unfold DevS.rd DevS.ck; rw [hde]; rfl
  have CBl : Hid (∀ W, Below w.heap.size w W -> Calls Tryz.prog 58 #[.pointer (some ⟨p, 0, none⟩)] W fun e w' => e = .returned (.int .i64 D.disk.length) /\ W = w') := fun W hW => blocks_any (hd.below hW)
  have CR : Hid (∀ W, Below w.heap.size w W -> Calls Tryz.prog 147 #[.pointer (some ⟨p, 0, none⟩), .int .i64 0] W fun e w' => e = .returned (.tuple #[.string ByteArray.empty, .int .i64 4]) /\ Below W.heap.size W w') := fun W hW => by
    have := read_any 0 hp (hd.below hW); rw [hr] at this; exact this
  have c0 := hj.c0
  have HKp : Hid (∀ W, Below w.heap.size w W -> W.cell? ⟨a, 0, none⟩ = some (.pointer (some ⟨p, 0, none⟩))) := fun W hW => (hW.cell (p := ⟨a, 0, none⟩) hj.lt).trans c0
  clear hj hd hr
  generalize D.disk.length = nd at *
  obtain ⟨M, hM⟩ : ∃ M : Nat, M = min 2 nd := ⟨_, rfl⟩
  have hM1 : 1 <= M := by omega
  go_enter Tryz.func124, Tryz.ntmps124
  go_wp2_with fail
  refine (CBl.out _ (Below.refl _ _)).mono ?_
  rintro e w1 ⟨rfl, rfl⟩
  go_wp2_with fail
  go_loopw [15] (fun i wr => i = .int .i64 0 /\ wr = w) (fun _ _ => 0)
  case atStart => exact ⟨rfl, rfl⟩
  case round =>
    obtain ⟨rfl, rfl⟩ := hrel
    have h2 : (0 : Int) < min 2 (nd : Int) := by omega
    go_wp2_with fail
    refine (CR.out _ (Below.refl _ _)).mono ?_
    rintro e w1 ⟨rfl, hb⟩
    have HB := Lib.hid hb; clear hb
    go_wp2
    go_ret
    exact ⟨rfl, HB.out⟩

def FindP (D : DevS) (a p : Nat) (e : Ending) (w' : World) : Prop := (D.find = none -> e = .returned (.int .i64 10)) /\ ∀ J, D.find = some J -> e = .returned (.int .i64 0) /\ Jr 104 w' a p J

abbrev slW (w : World) (a : Nat) (x : Nat × Nat × Nat × Nat) (k : Nat) : World := ((((w.setCell ⟨a, 1, none⟩ (.int .u64 (x.1 : Int))).setCell ⟨a, 2, none⟩ (.int .u64 (x.2.1 : Int))).setCell ⟨a, 3, none⟩ (.int .i64 (x.2.2.1 : Int))).setCell ⟨a, 4, none⟩ (.int .i64 (x.2.2.2 : Int))).setCell ⟨a, 5, none⟩ (.int .i64 (k : Int))
theorem sl_only (w : World) (a : Nat) (x : Nat × Nat × Nat × Nat) (k : Nat) : Only (fun k => k = a) w (slW w a x k) :=
  (((((Only.refl (fun k => k = a) w).setCell (p := ⟨a, 1, none⟩) (fun _ => rfl) _).setCell (p := ⟨a, 2, none⟩) (fun _ => rfl) _).setCell (p := ⟨a, 3, none⟩) (fun _ => rfl) _).setCell (p := ⟨a, 4, none⟩) (fun _ => rfl) _).setCell (p := ⟨a, 5, none⟩) (fun _ => rfl) _
theorem Jr.sl {t : TypeId} (h : Jr t w a p J) (x : Nat × Nat × Nat × Nat) (k : Nat) : Jr t (slW w a x k) a p ⟨x.1, x.2.1, x.2.2.1, x.2.2.2, k, J.next, J.full⟩ := by
  have h1 := h.put (J' := { J with e := x.1 }) (i := 1) (v := .int .u64 (x.1 : Int)) (by simp [JCells])
  have h2 := h1.put (J' := { J with e := x.1, s := x.2.1 }) (i := 2) (v := .int .u64 (x.2.1 : Int)) (by simp [JCells])
  have h3 := h2.put (J' := { J with e := x.1, s := x.2.1, log := x.2.2.1 }) (i := 3) (v := .int .i64 (x.2.2.1 : Int)) (by simp [JCells])
  have h4 := h3.put (J' := { J with e := x.1, s := x.2.1, log := x.2.2.1, p := x.2.2.2 }) (i := 4) (v := .int .i64 (x.2.2.2 : Int)) (by simp [JCells])
  exact h4.put (J' := ⟨x.1, x.2.1, x.2.2.1, x.2.2.2, k, J.next, J.full⟩) (i := 5) (v := .int .i64 (k : Int)) (by simp [JCells])

set_option maxRecDepth 100000 in
set_option maxHeartbeats 4000000 in
theorem find_live (hj : Jr 104 w a p ⟨0, 0, 0, 0, 0, 0, 0⟩) (hd : Stands S w p D) (ha : ¬ S a) (hde : D.dead = false) (hp : D.pend.length <= 1000000) :
    Calls Tryz.prog 124 #[.pointer (some ⟨a, 0, none⟩)] w fun e w' => Only (fun k => k = a) w w' /\ FindP D a p e w' := by
  have h1 := hd.ok.some
  have hnd := hd.ok.few
  have hal := hj.lt
  have CBl : Hid (∀ W, Only (fun k => k = a) w W -> Calls Tryz.prog 58 #[.pointer (some ⟨p, 0, none⟩)] W fun e w' => e = .returned (.int .i64 D.disk.length) /\ W = w') := fun W hW => blocks_any (hd.kept hW (fun k hk hka => ha (hka ▸ hk)))
  have CR : Hid (∀ W k, k < D.disk.length -> Only (fun k => k = a) w W -> Calls Tryz.prog 147 #[.pointer (some ⟨p, 0, none⟩), .int .i64 ((k : Nat) : Int)] W fun e w' => e = .returned (.tuple #[.string (D.rdB k), .int .i64 0]) /\ Below W.heap.size W w') := fun W k hk hW => by
    have := read_any (k : Int) hp (hd.kept hW (fun k hk hka => ha (hka ▸ hk)))
    rw [DevS.rd_live hde _ hk] at this; exact this
  have CS : Hid (∀ W k, k < D.disk.length -> Calls Tryz.prog 172 #[.string (D.rdB k), .int .i64 (D.disk.length : Int)] W fun r w' => r = .returned (slotV (D.slotAt k)) /\ Below W.heap.size W w') := fun W k hk => by
    have := readSlot_any (D.rdB k) D.disk.length W (hd.ok.rdB_size k hk) hnd
    have e : D.slotAt k = rdSlot (D.rdB k) D.disk.length := by unfold DevS.slotAt; rw [if_pos hk]
    rw [e]; exact this
  have HFB := Lib.hid (find_best D)
  have HB1 := Lib.hid (best_one D)
  have HJ := Lib.hid hj
  have c0 := hj.c0
  clear hj hd ha hde
  obtain ⟨nd, hnd'⟩ : ∃ n, D.disk.length = n := ⟨_, rfl⟩
  rw [hnd'] at CBl CS CR h1 hnd HB1
  clear hnd'
  obtain ⟨M, hM⟩ : ∃ M : Nat, M = min 2 nd := ⟨_, rfl⟩
  have hMe : min 2 (nd : Int) = (M : Int) := by omega
  go_enter Tryz.func124, Tryz.ntmps124
  go_wp2_with fail
  refine (CBl.out _ (Only.refl _ _)).mono ?_
  rintro e w1 ⟨rfl, rfl⟩
  go_wp2_with fail
  go_loopw [3, 15] (fun fd i wr => ∃ k : Nat, k <= M /\ i = .int .i64 k /\ fd = .bool (D.best k).isSome /\ Hid (Jr 104 wr a p (bestJ (D.best k))) /\ Hid (Only (fun k => k = a) w wr)) (fun _ i _ => M - (intOf i).toNat)
  case atStart => exact ⟨0, Nat.zero_le _, rfl, rfl, HJ, Only.refl _ _⟩
  case round =>
    obtain ⟨k, hk, rfl, rfl, HJk, HO⟩ := hrel
    clear HJ c0
    by_cases hlt : k < M
    . have hkn : k < nd := by omega
      have ca := HJk.out.c0
      have halr := HJk.out.lt
      have CRk := Lib.hid (CR.out wr k hkn HO.out)
      have CSk := Lib.hid (fun W => CS.out W k hkn)
      have CBk : Hid (∀ W, Below wr.heap.size wr W -> Calls Tryz.prog 58 #[.pointer (some ⟨p, 0, none⟩)] W fun e w' => e = .returned (.int .i64 nd) /\ W = w') := fun W hW => CBl.out W (HO.out.trans (Only.of_below (fun _ => False) hW (Nat.le_refl _)) (fun _ _ f => f.elim))
      clear CR CS CBl
      generalize D.rdB k = tx at *
      have hlt' : (k : Int) < (M : Int) := by omega
      go_wp2_with fail
      refine CRk.out.mono ?_
      rintro e w1 ⟨rfl, hb1⟩
      have HB1' := Lib.hid hb1; clear hb1
      have ca1 := (HB1'.out.cell (p := ⟨a, 0, none⟩) halr).trans ca
      go_wp2_with fail
      refine (CBk.out _ HB1'.out).mono ?_
      rintro e w2 ⟨rfl, rfl⟩
      go_wp2_with fail
      refine (CSk.out _).mono ?_
      rintro e w3 ⟨rfl, hb3⟩
      have HB3 := Lib.hid (HB1'.out.trans (hb3.mono HB1'.out.size)); clear hb3 HB1' ca ca1 CRk CSk CBk
      have HJ3 := Lib.hid (HJk.out.below HB3.out)
      have HO3 : Hid (Only (fun k => k = a) w w3) := HO.out.trans (Only.of_below (fun _ => False) HB3.out (Nat.le_refl _)) (fun _ _ f => f.elim)
      have hal3 := HJ3.out.lt
      cases hs : D.slotAt k with
      | none =>
        have HBn : Hid (D.best (k + 1) = D.best k) := best_none D k hs
        have HBi : Hid ((D.best (k + 1)).isSome = (D.best k).isSome) := by show _ = _; rw [HBn.out]
        generalize (D.best k).isSome = fd at *
        simp only [slotV]
        clear hs
        go_wp2_with fail
        go_quiet (fail)
        go_wp2
        go_roundw
        case rel =>
          have hb : Below w3.heap.size w3 ((w3.alloc (.cells #[.int .u64 0, .int .u64 0, .int .i64 0, .int .i64 0] 102)).drewN nq) := Fr.below_drewN ((Below.refl _ _).alloc (Nat.le_refl _) _) _
          exact ⟨k + 1, by omega, by go_num, by rw [HBi.out], by rw [HBn.out]; exact HJ3.out.below hb, HO3.out.trans (Only.of_below (fun _ => False) hb (Nat.le_refl _)) (fun _ _ f => f.elim)⟩
        case measure => simp [intOf]; omega
      | some x =>
        have HBs := Lib.hid (best_some D k hs)
        clear hs
        obtain ⟨xe, xs, xl, xp⟩ := x
        simp only [slotV]
        obtain ⟨X, hX⟩ : ∃ X, w3.alloc (.cells #[.int .u64 (xe : Int), .int .u64 (xs : Int), .int .i64 (xl : Int), .int .i64 (xp : Int)] 102) = X := ⟨_, rfl⟩
        have hXb : Below w3.heap.size w3 X := by rw [<- hX]; exact (Below.refl _ _).alloc (Nat.le_refl _) _
        have hXh : X.heap[w3.heap.size]? = some (.cells #[.int .u64 (xe : Int), .int .u64 (xs : Int), .int .i64 (xl : Int), .int .i64 (xp : Int)] 102 (0, 0)) := by rw [<- hX, heap_alloc_new]
        have k0 : X.cell? ⟨w3.heap.size, 0, none⟩ = some (.int .u64 (xe : Int)) := by rw [cell_at hXh]; rfl
        have k1 : X.cell? ⟨w3.heap.size, 1, none⟩ = some (.int .u64 (xs : Int)) := by rw [cell_at hXh]; rfl
        have k2 : X.cell? ⟨w3.heap.size, 2, none⟩ = some (.int .i64 (xl : Int)) := by rw [cell_at hXh]; rfl
        have k3 : X.cell? ⟨w3.heap.size, 3, none⟩ = some (.int .i64 (xp : Int)) := by rw [cell_at hXh]; rfl
        have HJX := Lib.hid (HJ3.out.below hXb)
        have HOX : Hid (Only (fun k => k = a) w X) := HO3.out.trans (Only.of_below (fun _ => False) hXb (Nat.le_refl _)) (fun _ _ f => f.elim)
        have HX := Lib.hid hX
        have hne : w3.heap.size ≠ a := by omega
        clear hX hXb hXh HJ3 HO3 HB3 HJk
        cases hbk : D.best k with
        | none =>
          rw [hbk] at HBs HJX
          have HBn : Hid (D.best (k + 1) = some ((xe, xs, xl, xp), k)) := HBs.out
          simp only [Option.isSome_none]
          simp only [bestJ] at HJX
          clear HBs hbk
          have X0 := HJX.out.c1; have X1 := HJX.out.c2; have X2 := HJX.out.c3; have X3 := HJX.out.c4; have X4 := HJX.out.c5
          have F0 := HJX.out.f 1; have F1 := HJX.out.f 2; have F2 := HJX.out.f 3; have F3 := HJX.out.f 4; have F4 := HJX.out.f 5
          go_wp2_with fail
          rw [HX.out]
          go_quiet (fail)
          go_wp2_with fail
          go_region
          go_wp2
          go_roundw
          case rel => exact ⟨k + 1, by omega, by go_num, by rw [HBn.out]; rfl, by rw [HBn.out]; exact (HJX.out.sl (xe, xs, xl, xp) k).below (Fr.below_drewN (Below.refl _ _) _), (HOX.out.trans (sl_only X a (xe, xs, xl, xp) k) (fun _ _ h => h)).trans (Only.of_below (fun _ => False) (Fr.below_drewN (Below.refl _ _) _) (Nat.le_refl _)) (fun _ _ f => f.elim)⟩
          case measure => simp [intOf]; omega
        | some y =>
          obtain ⟨⟨ye, ys, yl, yp⟩, yi⟩ := y
          rw [hbk] at HBs HJX
          simp only [Option.isSome_some]
          simp only [bestJ] at HJX
          by_cases hg : ye < xe
          . have HBn : Hid (D.best (k + 1) = some ((xe, xs, xl, xp), k)) := by
              show _ = _; rw [HBs.out]; show (if ye < xe then _ else _) = _; rw [if_pos hg]
            have hg' : (ye : Int) < (xe : Int) := by omega
            have hgd : decide ((ye : Int) < (xe : Int)) = true := decide_eq_true hg'
            clear HBs hbk
            have X0 := HJX.out.c1; have X1 := HJX.out.c2; have X2 := HJX.out.c3; have X3 := HJX.out.c4; have X4 := HJX.out.c5
            have F0 := HJX.out.f 1; have F1 := HJX.out.f 2; have F2 := HJX.out.f 3; have F3 := HJX.out.f 4; have F4 := HJX.out.f 5
            go_wp2_with fail
            rw [HX.out]
            go_quiet (fail)
            go_wp2_with fail
            go_region
            go_wp2
            go_roundw
            case rel => exact ⟨k + 1, by omega, by go_num, by rw [HBn.out]; rfl, by rw [HBn.out]; exact (HJX.out.sl (xe, xs, xl, xp) k).below (Fr.below_drewN (Below.refl _ _) _), (HOX.out.trans (sl_only X a (xe, xs, xl, xp) k) (fun _ _ h => h)).trans (Only.of_below (fun _ => False) (Fr.below_drewN (Below.refl _ _) _) (Nat.le_refl _)) (fun _ _ f => f.elim)⟩
            case measure => simp [intOf]; omega
          . have HBn : Hid (D.best (k + 1) = some ((ye, ys, yl, yp), yi)) := by
              show _ = _; rw [HBs.out]; show (if ye < xe then _ else _) = _; rw [if_neg hg]
            have hg' : ¬ (ye : Int) < (xe : Int) := by omega
            have hgd : decide ((ye : Int) < (xe : Int)) = false := decide_eq_false hg'
            have X0 := HJX.out.c1
            clear HBs hbk
            go_wp2_with fail
            rw [HX.out]
            go_quiet (fail)
            go_wp2
            go_roundw
            case rel => exact ⟨k + 1, by omega, by go_num, by rw [HBn.out]; rfl, by rw [HBn.out]; exact HJX.out.below (Fr.below_drewN (Below.refl _ _) _), HOX.out.trans (Only.of_below (fun _ => False) (Fr.below_drewN (Below.refl _ _) _) (Nat.le_refl _)) (fun _ _ f => f.elim)⟩
            case measure => simp [intOf]; omega
    . have hkn : k = M := by omega
      have hb2 : D.best k = D.best 2 := by
        by_cases h2 : nd = 1
        . rw [HB1.out h2, hkn, hM, h2]; rfl
        . rw [hkn, hM, show min 2 nd = 2 by omega]
      have hlt' : ¬ (k : Int) < (M : Int) := by omega
      rw [hb2] at HJk ⊢
      cases hb : D.best 2 with
      | none =>
        rw [hb] at HJk
        have HF : Hid (D.find = none) := by show _ = _; rw [HFB.out, hb]; rfl
        simp only [Option.isSome_none]
        clear hb hb2 hkn
        go_wp2
        go_ret
        exact ⟨HO.out, fun _ => rfl, fun J h => by rw [HF.out] at h; cases h⟩
      | some y =>
        obtain ⟨⟨ye, ys, yl, yp⟩, yi⟩ := y
        rw [hb] at HJk
        have HF : Hid (D.find = some ⟨ye, ys, yl, yp, yi, ys, 0⟩) := by show _ = _; rw [HFB.out, hb]; rfl
        simp only [Option.isSome_some]
        simp only [bestJ] at HJk
        have c2 := HJk.out.c2; have c6 := HJk.out.c6; have f6 := HJk.out.f 6
        clear hb hb2 hkn
        go_wp2
        go_ret
        refine ⟨HO.out.setCell (p := ⟨a, 6, none⟩) (fun _ => rfl) _, fun h => (by rw [HF.out] at h; cases h), fun J h => ?_⟩
        rw [HF.out] at h
        cases h
        exact ⟨rfl, HJk.out.put (J' := ⟨ye, ys, yl, yp, yi, ys, 0⟩) (i := 6) (by simp [JCells])⟩
end
end Go.Proofs.YthambopnmhkeeaaGreat
/- What Open answers and leaves behind, for every device. -/
namespace Go.Proofs.YthambopnmhkeeaaGreat
open Go.RowKit

section
variable {S : Nat -> Prop} {w w' : World} {a p : Nat} {J : JS} {D : DevS}

def Opened (t : TypeId) (S : Nat -> Prop) (w w' : World) (p : Nat) (r : Int × DevS × Option JS) (e : Ending) : Prop :=
  ∃ S' : Nat -> Prop, (∀ k, S' k -> S k \/ w.heap.size <= k) /\ Stands S' w' p r.2.1 /\ Only S w w' /\
    (match r.2.2 with
    | none => e = .returned (.tuple #[.pointer none, .int .i64 r.1])
    | some J => ∃ a, e = .returned (.tuple #[.pointer (some ⟨a, 0, none⟩), .int .i64 r.1]) /\ w.heap.size <= a /\ ¬ S' a /\ Jr t w' a p J)

theorem rdSlot_ok {t : ByteArray} {n : Nat} {x : Nat × Nat × Nat × Nat} (h : rdSlot t n = some x) : 50 <= x.2.2.1 /\ x.2.2.1 + 3 <= n /\ x.2.2.2 < x.2.2.1 /\ x.1 < 18446744073709551616 /\ x.2.1 < 18446744073709551616 := by
  obtain ⟨⟨h1, h2, h3, _⟩, rfl⟩ := (rdSlot_iff t n x).1 h
  exact ⟨h1, h2, h3, wideAt_lt _ _, wideAt_lt _ _⟩
theorem find_ok (h : D.find = some J) : J.Ok D.disk.length /\ J.full = 0 := by
  have hs : ∀ i x, i <= 1 -> D.slotAt i = some x -> (slotJ x i).Ok D.disk.length /\ (slotJ x i).full = 0 := by
    intro i x hi hx
    unfold DevS.slotAt at hx
    split at hx
    . obtain ⟨h1, h2, h3, h4, h5⟩ := rdSlot_ok hx
      exact ⟨⟨h1, h2, h3, hi, Nat.zero_le _, h4, h5, h5⟩, rfl⟩
    . cases hx
  unfold DevS.find at h
  split at h
  . cases h
  . rename_i x h0 h1; cases h; exact hs 0 x (by omega) h0
  . rename_i x h0 h1; cases h; exact hs 1 x (by omega) h1
  . rename_i x y h0 h1
    split at h
    . cases h; exact hs 1 y (by omega) h1
    . cases h; exact hs 0 x (by omega) h0


theorem redoN_keeps (m : Nat) : ∀ (J : JS) (D : DevS), J.Ok D.disk.length -> (J.redoN D m).2.1.disk.length = D.disk.length /\ (J.redoN D m).2.2.Ok D.disk.length /\ (J.redoN D m).2.1.pend.length + (J.redoN D m).2.2.left <= D.pend.length + J.left := by
  induction m with
  | zero => intro J D ok; exact ⟨rfl, ok, Nat.le_refl _⟩
  | succ m ih =>
    intro J D ok
    cases hfr : J.frameOf D with
    | none => rw [redoN_none m hfr]; exact ⟨rfl, ok, Nat.le_refl _⟩
    | some ws =>
      obtain ⟨f1, f2, f3, _⟩ := frameOf_some hfr
      have hl := ok.fu
      have ok2 : (J.grow (ws.length + 1)).Ok D.disk.length := ok.grow _ (by unfold JS.left at f3; omega)
      have hl2 : (J.grow (ws.length + 1)).left = J.left - (ws.length + 1) := by unfold JS.left JS.grow; simp only; omega
      have hw := D.wrs_len ws
      have hd := D.wrs_disk ws
      rw [redoN_some m hfr]
      split
      . refine ⟨by rw [hd], ok2, ?_⟩
        show (D.wrs ws).2.pend.length + (J.grow (ws.length + 1)).left <= _
        rw [hl2]; omega
      . have := ih (J.grow (ws.length + 1)) (D.wrs ws).2 (by rw [hd]; exact ok2)
        rw [hd] at this
        refine ⟨this.1, this.2.1, ?_⟩
        have := this.2.2
        rw [hl2] at this
        omega
theorem opened_of {X : World} {D' : DevS} {J' : JS} (hd : Stands S w p D) (hXb : Below w.heap.size w X) (hX : w.heap.size < X.heap.size) (h : JLeaves 104 S X w' w.heap.size p D' J') :
    ∃ S' : Nat -> Prop, (∀ k, S' k -> S k \/ w.heap.size <= k) /\ Stands S' w' p D' /\ Only S w w' /\ ¬ S' w.heap.size /\ Jr 104 w' w.heap.size p J' := by
  obtain ⟨S', hS', hs, hj, ho⟩ := h
  refine ⟨S', fun k hk => ?_, hs, ?_, fun h => ?_, hj⟩
  . rcases hS' k hk with h | h
    . exact .inl h
    . exact .inr (by omega)
  . exact (Only.of_below S hXb (Nat.le_refl _)).trans ho (fun i hi h => by rcases h with h | h; exact h; omega)
  . rcases hS' _ h with h | h
    . have := hd.lt _ h; omega
    . omega

set_option maxRecDepth 100000 in
set_option maxHeartbeats 2000000 in
theorem open_any (hd : Stands S w p D) (hp : D.pend.length <= 600000) :
    Calls Tryz.prog 70 #[.pointer (some ⟨p, 0, none⟩)] w fun e w' => Opened 104 S w w' p D.opn e := by
  have hlt := hd.lt
  have hnd := hd.ok.few
  obtain ⟨X, hX⟩ : ∃ X, w.alloc (.cells #[.pointer (some ⟨p, 0, none⟩), .int .u64 0, .int .u64 0, .int .i64 0, .int .i64 0, .int .i64 0, .int .u64 0, .int .i64 0] 104) = X := ⟨_, rfl⟩
  have hXb : Below w.heap.size w X := by rw [<- hX]; exact (Below.refl _ _).alloc (Nat.le_refl _) _
  have hXj : Jr 104 X w.heap.size p ⟨0, 0, 0, 0, 0, 0, 0⟩ := by unfold Jr; rw [<- hX]; exact heap_alloc_new ..
  have hXs := hd.below hXb
  have hXz := hXj.lt
  have hna : ¬ S w.heap.size := fun h => by have := hlt _ h; omega
  have HX := Lib.hid hX; clear hX
  have HXB := Lib.hid hXb; have HD := Lib.hid hd
  cases hde : D.dead with
  | true =>
    have HO : Hid (D.opn = (4, D, none)) := by show _ = _; unfold DevS.opn; rw [hde]; rfl
    have CF := Lib.hid (find_dead hXj hXs hde (by omega))
    clear hXj hXs hna hde hlt hd hXb
    go_enter Tryz.func70, Tryz.ntmps70
    go_wp2_with fail
    rw [HX.out]
    refine CF.out.mono ?_
    rintro e w1 ⟨rfl, hb1⟩
    have HB1 : Hid (Below w.heap.size w w1) := HXB.out.trans (hb1.mono HXB.out.size)
    clear hb1
    go_wp2
    go_ret2
    unfold Opened
    rw [HO.out]
    exact ⟨S, fun _ => .inl, HD.out.below HB1.out, Only.of_below _ HB1.out (Nat.le_refl _), rfl⟩
  | false =>
    have CF := Lib.hid (find_live hXj hXs hna hde (by omega))
    cases hf : D.find with
    | none =>
      have HO : Hid (D.opn = (10, D, none)) := by show _ = _; unfold DevS.opn; rw [hde, hf]; rfl
      have HF := Lib.hid hf
      clear hXj hXs hna hde hlt hd hXb hf
      go_enter Tryz.func70, Tryz.ntmps70
      go_wp2_with fail
      rw [HX.out]
      refine CF.out.mono ?_
      rintro e w1 ⟨ho1, hp1, _⟩
      have he := hp1 HF.out
      subst he
      have HO1 : Hid (Only S w w1) := (Only.of_below S HXB.out (Nat.le_refl _)).trans ho1 (fun i hi h => by omega)
      have HS1 : Hid (Stands S w1 p D) := (HD.out.below HXB.out).kept ho1 (fun k hk hka => by have := HD.out.lt _ hk; omega)
      clear ho1 hp1 CF
      go_wp2
      go_ret2
      unfold Opened
      rw [HO.out]
      exact ⟨S, fun _ => .inl, HS1.out, HO1.out, rfl⟩
    | some J =>
      obtain ⟨hok, hfu⟩ := find_ok hf
      have HF := Lib.hid hf
      have HOp : Hid (D.opn = if (J.redo D).1 ≠ 0 then ((J.redo D).1, (J.redo D).2.1, none) else if ((J.redo D).2.2.ckp (J.redo D).2.1).1 ≠ 0 then (((J.redo D).2.2.ckp (J.redo D).2.1).1, ((J.redo D).2.2.ckp (J.redo D).2.1).2.1, none) else (0, ((J.redo D).2.2.ckp (J.redo D).2.1).2.1, some ((J.redo D).2.2.ckp (J.redo D).2.1).2.2)) := by
        show _ = _; unfold DevS.opn; rw [hde, hf]; rfl
      have hkp : (J.redo D).2.1.disk.length = D.disk.length /\ (J.redo D).2.2.Ok D.disk.length /\ (J.redo D).2.1.pend.length <= 700000 := by
        have h := redoN_keeps (J.log + 1) J D hok
        refine ⟨h.1, h.2.1, ?_⟩
        have h3 := h.2.2
        have := hok.l1
        have h4 : J.left <= 4096 := by unfold JS.left; omega
        show (J.redoN D (J.log + 1)).2.1.pend.length <= _
        omega
      have HK := Lib.hid hkp
      have HXS := Lib.hid hXs; have HNA := Lib.hid hna
      have HDE := Lib.hid hde; have HOK := Lib.hid hok
      clear hXj hXs hna hde hlt hd hXb hf hok hfu hkp
      go_enter Tryz.func70, Tryz.ntmps70
      go_wp2_with fail
      rw [HX.out]
      refine CF.out.mono ?_
      rintro e w1 ⟨ho1, _, hp1⟩
      obtain ⟨he, hj1⟩ := hp1 J HF.out
      subst he
      have hs1 : Stands S w1 p D := HXS.out.kept ho1 (fun k hk hka => HNA.out (hka ▸ hk))
      have CR := Lib.hid (redo_any hj1 hs1 HNA.out HOK.out HDE.out (by omega))
      have HO1 : Hid (∀ w2 D2 J2, JLeaves 104 S w1 w2 w.heap.size p D2 J2 -> JLeaves 104 S X w2 w.heap.size p D2 J2) := fun w2 D2 J2 h => JLeaves.next (fun _ h => .inl h) (ho1.mono (fun _ _ h => .inr h)) h
      clear ho1 hp1 hj1 hs1 CF
      generalize J.redo D = R1 at *
      obtain ⟨er1, D1, J1⟩ := R1
      simp only at HOp HK CR
      go_wp2_with fail
      refine CR.out.mono ?_
      rintro e w2 ⟨rfl, hv2⟩
      have HV2 := Lib.hid (HO1.out _ _ _ hv2)
      clear hv2 CR HO1
      by_cases he1 : er1 = 0
      . have he1' : (er1 != 0) = false := by simp [he1]
        rw [if_neg (by simpa using he1)] at HOp
        obtain ⟨S2, hS2, hs2, hj2, ho2⟩ := HV2.out
        have hna2 : ¬ S2 w.heap.size := fun h => by rcases hS2 _ h with h | h; exact HNA.out h; omega
        have CK := Lib.hid (ckp_any hj2 hs2 hna2 (by rw [HK.out.1]; exact HK.out.2.1) (by have := HK.out.2.2; omega))
        have HV3 : Hid (∀ w3 D3 J3, JLeaves 104 S2 w2 w3 w.heap.size p D3 J3 -> JLeaves 104 S X w3 w.heap.size p D3 J3) := fun w3 D3 J3 h => JLeaves.next hS2 ho2 h
        clear hS2 hs2 hj2 ho2 hna2 HV2
        generalize J1.ckp D1 = R2 at *
        obtain ⟨er2, D2, J2⟩ := R2
        simp only at HOp CK
        go_wp2_with fail
        refine CK.out.mono ?_
        rintro e w3 ⟨rfl, hv3⟩
        have HV := Lib.hid (HV3.out _ _ _ hv3)
        clear hv3 CK HV3
        by_cases he2 : er2 = 0
        . have he2' : (er2 != 0) = false := by simp [he2]
          rw [if_neg (by simpa using he2)] at HOp
          go_wp2
          go_ret2
          obtain ⟨S3, h1, h2, h3, h4, h5⟩ := opened_of HD.out HXB.out hXz HV.out
          unfold Opened
          rw [HOp.out]
          exact ⟨S3, h1, h2, h3, w.heap.size, rfl, Nat.le_refl _, h4, h5⟩
        . have he2' : (er2 != 0) = true := by simp [he2]
          rw [if_pos (by simpa using he2)] at HOp
          go_wp2
          go_ret2
          obtain ⟨S3, h1, h2, h3, h4, h5⟩ := opened_of HD.out HXB.out hXz HV.out
          unfold Opened
          rw [HOp.out]
          exact ⟨S3, h1, h2, h3, rfl⟩
      . have he1' : (er1 != 0) = true := by simp [he1]
        rw [if_pos (by simpa using he1)] at HOp
        go_wp2
        go_ret2
        obtain ⟨S3, h1, h2, h3, h4, h5⟩ := opened_of HD.out HXB.out hXz HV2.out
        unfold Opened
        rw [HOp.out]
        exact ⟨S3, h1, h2, h3, rfl⟩
end
end Go.Proofs.YthambopnmhkeeaaGreat
/- Journals on a device, in plain lists: what lies there when all is well; what a slot and a head are when they are torn; what is found and done by Open. -/
namespace Go.Proofs.YthambopnmhkeeaaGreat
open Go.RowKit
open Fr (bs fixL nmAt headB topL unp WrOk packL)

abbrev Wr := Int × ByteArray
def gd (d : List ByteArray) (b : Nat) : ByteArray := d.getD b ByteArray.empty
def natW (W : List Wr) : List (Nat × ByteArray) := W.map fun x => (x.1.toNat, x.2)

section lay
variable {f : Nat -> Nat} {P Q : List (Nat × ByteArray)} {disk : List ByteArray}
theorem laid_left (k : Nat) (hk : k <= P.length) : laidTo f (P ++ Q) disk k = laidTo f P disk k := by
  induction k with
  | zero => rfl
  | succ k ih =>
    rw [laidTo_succ f (P ++ Q) disk k (by rw [List.length_append]; omega), laidTo_succ f P disk k (by omega), ih (by omega), List.getElem_append_left (by omega)]
theorem laid_snoc (x : Nat × ByteArray) : laidTo f (P ++ [x]) disk (P ++ [x]).length = layOne (laidTo f P disk P.length) x (f P.length) := by
  rw [show (P ++ [x]).length = P.length + 1 by simp, laidTo_succ f (P ++ [x]) disk P.length (by simp), laid_left _ (Nat.le_refl _)]
  congr 1
  simp
theorem gd_layOne (d : List ByteArray) (x : Nat × ByteArray) (m b : Nat) (h : x.1 ≠ b) : gd (layOne d x m) b = gd d b := by
  unfold gd layOne; simp [List.getD, h]
theorem laid_other (b k : Nat) (h : ∀ x ∈ P, x.1 ≠ b) : gd (laidTo f P disk k) b = gd disk b := by
  induction k with
  | zero => rfl
  | succ k ih =>
    by_cases hk : k < P.length
    . rw [laidTo_succ f P disk k hk, gd_layOne _ _ _ _ (h _ (List.getElem_mem hk)), ih]
    . have e : laidTo f P disk (k + 1) = laidTo f P disk k := by rw [laidTo]; simp [List.getElem?_eq_none (Nat.le_of_not_lt hk)]
      rw [e, ih]
theorem laid_one (b : Nat) (x : ByteArray) (h : ∀ y ∈ P, y.1 ≠ b) (hb : b < disk.length) : gd (laidTo f (P ++ [(b, x)]) disk (P ++ [(b, x)]).length) b = layB x (gd disk b) (f P.length) := by
  rw [laid_snoc]
  have e := laid_other (f := f) (disk := disk) b P.length h
  unfold gd layOne at *
  rw [e]
  simp [List.getD, laidTo_length, hb]
end lay

theorem rdB_none {D : DevS} (b : Nat) (h : ∀ x ∈ D.pend, x.1 ≠ b) : D.rdB b = gd D.disk b := by
  unfold DevS.rdB gd
  have : D.pend.reverse.find? (fun x => x.1 == b) = none := by
    rw [List.find?_eq_none]; intro x hx; have := h x (List.mem_reverse.1 hx); simpa using this
  rw [this]

def Fit (n : Nat) (W : List Wr) : Prop := ∀ x ∈ W, 0 <= x.1 /\ x.1 < n /\ x.2.size = 256
theorem natW_append (A B : List Wr) : natW (A ++ B) = natW A ++ natW B := by unfold natW; rw [List.map_append]

structure Wrote (D D' : DevS) (W : List Wr) (e : Int) (k : Nat) : Prop where
  le : k <= W.length
  disk : D'.disk = D.disk
  pend : D'.pend = D.pend ++ natW (W.take k)
  how : (e = 0 /\ k = W.length /\ D'.dead = false) \/ (e = 4 /\ D'.dead = true)
theorem wr_cases (D : DevS) (hde : D.dead = false) (x : Wr) (h : 0 <= x.1 /\ x.1 < D.disk.length /\ x.2.size = 256) : ∃ k, Wrote D (D.wr x.1 x.2).2 [x] (D.wr x.1 x.2).1 k := by
  have hck : D.ck x.1 = 0 := by unfold DevS.ck; rw [hde]; simp; omega
  by_cases ht : D.tk.1 = false
  . have e : D.wr x.1 x.2 = (4, D.tk.2) := by unfold DevS.wr; simp [hck, h.2.2, ht]
    rw [e]
    refine ⟨0, Nat.zero_le _, D.tk_disk, by simp [D.tk_pend, natW], .inr ⟨rfl, ?_⟩⟩
    unfold DevS.tk at ht ⊢
    split
    . rename_i h1; rw [if_pos h1] at ht; cases ht
    . split
      . rfl
      . rename_i h1 h2; rw [if_neg h1, if_neg h2] at ht; cases ht
  . have ht' : D.tk.1 = true := by simpa using ht
    have e : D.wr x.1 x.2 = (0, { D.tk.2 with pend := D.pend ++ [(x.1.toNat, x.2)] }) := by unfold DevS.wr; simp [hck, h.2.2, ht]
    rw [e]
    exact ⟨1, Nat.le_refl _, D.tk_disk, by simp [natW], .inl ⟨rfl, rfl, by show D.tk.2.dead = false; rw [D.tk_dead ht', hde]⟩⟩
theorem wrs_cases (W : List Wr) : ∀ (D : DevS), D.dead = false -> Fit D.disk.length W -> ∃ k, Wrote D (D.wrs W).2 W (D.wrs W).1 k := by
  induction W with
  | nil => intro D hde _; exact ⟨0, Nat.le_refl _, rfl, by simp [natW, DevS.wrs], .inl ⟨rfl, rfl, hde⟩⟩
  | cons x r ih =>
    intro D hde hf
    obtain ⟨k, hk⟩ := wr_cases D hde x (hf x (List.mem_cons_self ..))
    unfold DevS.wrs
    rcases hk.how with ⟨h0, h1, h2⟩ | ⟨h0, h1⟩
    . rw [if_neg (by rw [h0]; simp)]
      obtain ⟨k', hk'⟩ := ih (D.wr x.1 x.2).2 h2 (fun y hy => by rw [hk.disk]; exact hf y (List.mem_cons_of_mem _ hy))
      have e1 : (D.wr x.1 x.2).2.pend = D.pend ++ natW [x] := by rw [hk.pend, h1]; rfl
      refine ⟨k' + 1, by simpa using hk'.le, hk'.disk.trans hk.disk, ?_, ?_⟩
      . rw [hk'.pend, e1, List.take_succ_cons, List.append_assoc, <- natW_append]; rfl
      . rcases hk'.how with ⟨a, b, c⟩ | ⟨a, b⟩
        . exact .inl ⟨a, by rw [b]; rfl, c⟩
        . exact .inr ⟨a, b⟩
    . rw [if_pos (by rw [h0]; simp)]
      refine ⟨0, Nat.zero_le _, hk.disk, ?_, .inr ⟨h0, h1⟩⟩
      have : k = 0 \/ k = 1 := by have := hk.le; simp at this; omega
      rcases this with rfl | rfl
      . rw [hk.pend]; simp [natW]
      . exfalso
        have hw := hk.pend
        have : (D.wr x.1 x.2).2.pend.length <= D.pend.length := by
          unfold DevS.wr at h0 ⊢
          split
          . exact Nat.le_refl _
          . split
            . exact Nat.le_refl _
            . split
              . rw [DevS.tk_pend]; exact Nat.le_refl _
              . rename_i a b c; rw [if_neg a, if_neg b, if_neg c] at h0; cases h0
        rw [hw] at this
        simp [natW] at this
        omega
theorem fl_cases (D : DevS) : (D.fl.1 = 0 /\ D.fl.2.dead = false /\ D.fl.2.disk = laidTo (fun _ => 256) D.pend D.disk D.pend.length /\ D.fl.2.pend = []) \/ (D.fl.1 = 4 /\ D.fl.2.dead = true /\ D.fl.2.disk = D.disk /\ D.fl.2.pend = D.pend) := by
  by_cases hd : D.dead = true
  . have e : D.fl = (4, D) := by unfold DevS.fl; rw [if_pos hd]
    rw [e]; exact .inr ⟨rfl, hd, rfl, rfl⟩
  . by_cases ht : D.tk.1 = false
    . have e : D.fl = (4, D.tk.2) := by unfold DevS.fl; rw [if_neg hd, if_pos ht]
      rw [e]
      refine .inr ⟨rfl, ?_, D.tk_disk, D.tk_pend⟩
      unfold DevS.tk at ht ⊢
      split
      . rename_i h1; rw [if_pos h1] at ht; cases ht
      . split
        . rfl
        . rename_i h1 h2; rw [if_neg h1, if_neg h2] at ht; cases ht
    . have e : D.fl = (0, { D.tk.2 with disk := laidTo (fun _ => 256) D.pend D.disk D.pend.length, pend := [] }) := by unfold DevS.fl; rw [if_neg hd, if_neg ht]
      rw [e]
      exact .inl ⟨rfl, by show D.tk.2.dead = false; rw [D.tk_dead (by simpa using ht)]; simpa using hd, rfl, rfl⟩
theorem stl_cases (D : DevS) (W : List Wr) (hde : D.dead = false) (hf : Fit D.disk.length W) :
    ((D.stl W).1 = 0 /\ (D.stl W).2.dead = false /\ (D.stl W).2.disk = laidTo (fun _ => 256) (D.pend ++ natW W) D.disk (D.pend ++ natW W).length /\ (D.stl W).2.pend = []) \/
    ((D.stl W).1 = 4 /\ (D.stl W).2.dead = true /\ (D.stl W).2.disk = D.disk /\ ∃ k, k <= W.length /\ (D.stl W).2.pend = D.pend ++ natW (W.take k)) := by
  obtain ⟨k, hk⟩ := wrs_cases W D hde hf
  unfold DevS.stl
  rcases hk.how with ⟨h0, h1, h2⟩ | ⟨h0, h1⟩
  . rw [if_neg (by rw [h0]; simp)]
    have e : (D.wrs W).2.pend = D.pend ++ natW W := by rw [hk.pend, h1, List.take_length]
    rcases fl_cases (D.wrs W).2 with ⟨a, b, c, d⟩ | ⟨a, b, c, d⟩
    . exact .inl ⟨a, b, by rw [c, e, hk.disk], d⟩
    . exact .inr ⟨a, b, by rw [c, hk.disk], W.length, Nat.le_refl _, by rw [d, e, List.take_length]⟩
  . rw [if_pos (by rw [h0]; simp)]
    exact .inr ⟨h0, h1, hk.disk, k, hk.le, hk.pend⟩

theorem layB_list (x old : ByteArray) (m : Nat) : (layB x old m).data.toList = x.data.toList.take m ++ old.data.toList.drop m := by
  unfold layB
  rw [ByteArray.data_append, Array.toList_append, ByteArray.data_extract, ByteArray.data_extract, Array.toList_extract, Array.toList_extract]
  simp only [List.extract_eq_take_drop, List.drop_zero, Nat.sub_zero]
  congr 1
  apply List.take_of_length_le
  simp
theorem half_at (e s log p : Nat) (he : e < 18446744073709551616) (hs : s < 18446744073709551616) (hl : log < 4294967296) (hp : p < 4294967296) (Z : List UInt8) :
    wideAt (halfL e s log p ++ Z) 4 = e /\ wideAt (halfL e s log p ++ Z) 12 = s /\ nmAt (halfL e s log p ++ Z) 20 = log /\ nmAt (halfL e s log p ++ Z) 24 = p := by
  have hA : halfL e s log p ++ Z = [67, 68, 88, 83] ++ (fixL (e % 4294967296) ++ (fixL (e / 4294967296) ++ (fixL (s % 4294967296) ++ (fixL (s / 4294967296) ++ (fixL log ++ (fixL p ++ (List.replicate 100 0 ++ Z))))))) := by
    unfold halfL; simp only [List.append_assoc]
  rw [hA]
  have st (A B : List UInt8) (i : Nat) (h : A.length = 4) : nmAt (A ++ B) (4 + i) = nmAt B i := by rw [<- h]; exact Fr.nmAt_right A B i
  have f (v : Nat) (B : List UInt8) (i : Nat) : nmAt (fixL v ++ B) (4 + i) = nmAt B i := st _ _ _ (Fr.fixL_len v)
  refine ⟨?_, ?_, ?_, ?_⟩
  . unfold wideAt
    rw [show (4 : Nat) = 4 + 0 from rfl, st _ _ 0 rfl, Fr.nmAt_fix _ _ (by omega), show (4 + 0 + (4 + 0) : Nat) = 4 + (4 + 0) from rfl, st _ _ _ rfl, f, Fr.nmAt_fix _ _ (by omega)]
    omega
  . unfold wideAt
    rw [show (12 : Nat) = 4 + (4 + (4 + 0)) from rfl, st _ _ _ rfl, f, f, Fr.nmAt_fix _ _ (by omega), show (4 + (4 + (4 + 0)) + 4 : Nat) = 4 + (4 + (4 + (4 + 0))) from rfl, st _ _ _ rfl, f, f, f, Fr.nmAt_fix _ _ (by omega)]
    omega
  . rw [show (20 : Nat) = 4 + (4 + (4 + (4 + (4 + 0)))) from rfl, st _ _ _ rfl, f, f, f, f, Fr.nmAt_fix _ _ (by omega)]
  . rw [show (24 : Nat) = 4 + (4 + (4 + (4 + (4 + (4 + 0))))) from rfl, st _ _ _ rfl, f, f, f, f, f, Fr.nmAt_fix _ _ (by omega)]
theorem rdSlot_slotB (e s log p n : Nat) (he : e < 18446744073709551616) (hs : s < 18446744073709551616) (h1 : 50 <= log) (h2 : log + 3 <= n) (hn : n <= 4096) (hp : p < log) : rdSlot (slotB e s log p) n = some (e, s, log, p) := by
  obtain ⟨a, b, c, d⟩ := half_at e s log p he hs (by omega) (by omega) (halfL e s log p)
  have hl : (slotB e s log p).data.toList = halfL e s log p ++ halfL e s log p := rfl
  refine (rdSlot_iff _ _ _).2 ?_
  rw [hl, a, b, c, d]
  exact ⟨⟨h1, h2, hp, rfl⟩, rfl⟩
theorem half_inj {e s log p e' s' log' p' : Nat} (he : e < 18446744073709551616) (hs : s < 18446744073709551616) (hl : log < 4294967296) (hp : p < 4294967296)
    (he' : e' < 18446744073709551616) (hs' : s' < 18446744073709551616) (hl' : log' < 4294967296) (hp' : p' < 4294967296) (h : halfL e s log p = halfL e' s' log' p') : e = e' /\ s = s' /\ log = log' /\ p = p' := by
  obtain ⟨a, b, c, d⟩ := half_at e s log p he hs hl hp []
  obtain ⟨a', b', c', d'⟩ := half_at e' s' log' p' he' hs' hl' hp' []
  rw [h] at a b c d
  exact ⟨a.symm.trans a', b.symm.trans b', c.symm.trans c', d.symm.trans d'⟩
theorem rdSlot_bytes {t : ByteArray} {n : Nat} {x : Nat × Nat × Nat × Nat} (h : rdSlot t n = some x) : t = slotB x.1 x.2.1 x.2.2.1 x.2.2.2 := by
  obtain ⟨⟨_, _, _, h2⟩, rfl⟩ := (rdSlot_iff t n x).1 h
  exact h2
theorem torn_slot (e s log p n m : Nat) (old : ByteArray) (he : e < 18446744073709551616) (hs : s < 18446744073709551616) (h2 : log + 3 <= n) (hn : n <= 4096) (hp : p < log) (x : Nat × Nat × Nat × Nat)
    (h : rdSlot (layB (slotB e s log p) old m) n = some x) : x = (e, s, log, p) \/ old.data.toList.drop 128 = halfL x.1 x.2.1 x.2.2.1 x.2.2.2 := by
  have hx := rdSlot_bytes h
  obtain ⟨x0, x1, x2, x3, x4⟩ := rdSlot_ok h
  obtain ⟨xe, xs, xl, xp⟩ := x
  simp only at hx x0 x1 x2 x3 x4 ⊢
  have hX := congrArg (fun b : ByteArray => b.data.toList) hx
  rw [layB_list] at hX
  have hN : (slotB e s log p).data.toList = halfL e s log p ++ halfL e s log p := rfl
  have hM : (slotB xe xs xl xp).data.toList = halfL xe xs xl xp ++ halfL xe xs xl xp := rfl
  have hlN := halfL_len e s log p
  have hlX := halfL_len xe xs xl xp
  rw [hN, hM] at hX
  by_cases hm : m <= 128
  . right
    have := congrArg (List.drop 128) hX
    rw [List.drop_append, List.length_take, List.length_append, hlN, List.drop_left' hlX, List.drop_of_length_le (by rw [List.length_take, List.length_append, hlN]; omega), List.nil_append, List.drop_drop] at this
    rw [<- this]; congr 1; omega
  . left
    have := congrArg (List.take 128) hX
    rw [List.take_left' hlX, List.take_append, List.length_take, List.length_append, hlN, List.take_take, show min 128 m = 128 by omega, List.take_left' hlN, show 128 - min m (128 + 128) = 0 by omega, List.take_zero, List.append_nil] at this
    obtain ⟨a, b, c, d⟩ := half_inj he hs (by omega) (by omega) x3 x4 (by omega) (by omega) this
    rw [a, b, c, d]
theorem layB_twice (x old : ByteArray) (m k : Nat) (hx : x.size = 256) (hm : m <= 256) : layB x (layB x old m) k = layB x old (max m k) := by
  apply ByteArray.ext
  apply Array.ext'
  rw [layB_list, layB_list, layB_list]
  have hl : x.data.toList.length = 256 := by rw [Fr.str_len, hx]
  rw [List.drop_append, List.length_take, hl, show min m 256 = m by omega]
  by_cases h : m <= k
  . rw [show max m k = k by omega, List.drop_of_length_le (by rw [List.length_take]; omega), List.nil_append, List.drop_drop]
    congr 2; omega
  . rw [show max m k = m by omega, show k - m = 0 by omega, List.drop_zero, <- List.append_assoc]
    congr 1
    rw [List.drop_take]
    conv => rhs; rw [show m = k + (m - k) by omega]
    rw [List.take_add]
def Older (o : ByteArray) (e : Nat) : Prop := o.size = 256 /\ ∀ a b c d, a < 18446744073709551616 -> b < 18446744073709551616 -> c < 4294967296 -> d < 4294967296 -> o.data.toList.drop 128 = halfL a b c d -> a < e
theorem older_slot (e s log p : Nat) (he : e < 18446744073709551616) (hs : s < 18446744073709551616) (hl : log < 4294967296) (hp : p < 4294967296) : Older (slotB e s log p) (e + 1) := by
  refine ⟨slotB_size _ _ _ _, fun a b c d ha hb hc hd h => ?_⟩
  have hN : (slotB e s log p).data.toList = halfL e s log p ++ halfL e s log p := rfl
  rw [hN, List.drop_left' (halfL_len ..)] at h
  have := (half_inj he hs hl hp ha hb hc hd h).1
  omega
theorem older_noughts (e : Nat) : Older noughts e := by
  refine ⟨noughts_size, fun a b c d _ _ _ _ h => ?_⟩
  have : noughts.data.toList.drop 128 = List.replicate 128 0 := by decide +kernel
  rw [this] at h
  have := congrArg (fun l : List UInt8 => l.getD 0 0) h
  simp [halfL] at this

theorem headB_noughts : headB noughts.data.toList = false := by decide +kernel
theorem headB_begin (l : List UInt8) (h : l.getD 0 0 ≠ 67) : headB l = false := by
  cases hb : headB l with
  | false => rfl
  | true =>
    have h2 := ((Fr.headB_iff l).1 hb).2.1
    have := congrArg (fun l : List UInt8 => l.getD 0 0) h2
    simp only [Fr.cdxt] at this
    rw [Fr.getD_take _ _ _ (by omega)] at this
    exact absurd this h
theorem headB_end (l : List UInt8) (h : l.getD 255 0 ≠ 69) : headB l = false := by
  cases hb : headB l with
  | false => rfl
  | true =>
    have h2 := ((Fr.headB_iff l).1 hb).2.2.1
    have := congrArg (fun l : List UInt8 => l.getD 3 0) h2
    simp only [Fr.cdxe] at this
    rw [Fr.getD_drop] at this
    exact absurd this h
theorem noughts_at (i : Nat) : noughts.data.toList.getD i 0 = 0 := by
  have : noughts.data.toList = List.replicate 256 0 := by rw [noughts_bs]; rfl
  rw [this]
  simp only [List.getD, List.getElem?_replicate]
  split <;> rfl
theorem drop_getD (l : List UInt8) (k i : Nat) : (l.drop k).getD i 0 = l.getD (k + i) 0 := by simp [List.getD]
theorem torn_head (x : ByteArray) (m : Nat) (hx : x.size = 256) (hm : m < 256) : headB (layB x noughts m).data.toList = false := by
  apply headB_end
  rw [layB_list]
  have hl : (x.data.toList.take m).length = m := by rw [List.length_take, Fr.str_len, hx]; omega
  rw [show (255 : Nat) = (x.data.toList.take m).length + (255 - m) by omega, Fr.getD_right, drop_getD, noughts_at]
  decide
theorem torn_noughts (old : ByteArray) (m : Nat) (h : headB old.data.toList = false) : headB (layB noughts old m).data.toList = false := by
  cases m with
  | zero => rw [layB_none]; exact h
  | succ m =>
    apply headB_begin
    rw [layB_list]
    rw [Fr.getD_left _ _ _ (by rw [List.length_take, Fr.str_len, noughts_size]; omega), Fr.getD_take _ _ _ (by omega), noughts_at]
    decide
end Go.Proofs.YthambopnmhkeeaaGreat
/- What lies on a device with a journal when all is well, what Open finds there and does, in plain lists. -/
namespace Go.Proofs.YthambopnmhkeeaaGreat
open Go.RowKit
open Fr (bs fixL nmAt headB topL unp WrOk packL)

theorem chk_log {J K : JS} (h : J.log = K.log) (n : Nat) (f : List (Int × ByteArray)) : J.chk n f = K.chk n f := by
  have h1 : ∀ x, J.chk1 n x = K.chk1 n x := fun x => by unfold JS.chk1 JS.home; rw [h]
  have h2 : J.chkL n f = K.chkL n f := by
    induction f with
    | nil => rfl
    | cons x f ih => unfold JS.chkL; rw [h1, ih]
  unfold JS.chk; rw [h2]
def fsz : List (List Wr) -> Nat
  | [] => 0
  | f :: F => f.length + 1 + fsz F
theorem fsz_append (A B : List (List Wr)) : fsz (A ++ B) = fsz A + fsz B := by
  induction A with
  | nil => simp [fsz]
  | cons f A ih => simp only [List.cons_append, fsz, ih]; omega
def LaidF (g : Nat -> ByteArray) (log p : Nat) : Nat -> Nat -> List (List Wr) -> Prop
  | _, _, [] => True
  | o, s, f :: F => g (2 + (p + o) % log) = bs (topL s f) /\ (∀ j (h : j < f.length), g (2 + (p + o + (j + 1)) % log) = f[j].2) /\ LaidF g log p (o + (f.length + 1)) (s + 1) F
theorem LaidF.congr {g g' : Nat -> ByteArray} {log p : Nat} : ∀ {F : List (List Wr)} {o s : Nat}, LaidF g log p o s F -> (∀ i, o <= i -> i < o + fsz F -> g' (2 + (p + i) % log) = g (2 + (p + i) % log)) -> LaidF g' log p o s F
  | [], _, _, _, _ => trivial
  | f :: F, o, s, h, hg => by
    obtain ⟨h1, h2, h3⟩ := h
    have e : fsz (f :: F) = f.length + 1 + fsz F := rfl
    refine ⟨by rw [hg o (Nat.le_refl _) (by omega)]; exact h1, fun j hj => ?_, LaidF.congr h3 (fun i hi hl => hg i (by omega) (by omega))⟩
    have := hg (o + (j + 1)) (by omega) (by omega)
    rw [<- Nat.add_assoc] at this
    rw [this]; exact h2 j hj
theorem LaidF.snoc {g : Nat -> ByteArray} {log p : Nat} (W : List Wr) : ∀ {F : List (List Wr)} {o s : Nat}, LaidF g log p o s F -> g (2 + (p + (o + fsz F)) % log) = bs (topL (s + F.length) W) -> (∀ j (h : j < W.length), g (2 + (p + (o + fsz F) + (j + 1)) % log) = W[j].2) -> LaidF g log p o s (F ++ [W])
  | [], o, s, _, h1, h2 => ⟨h1, h2, trivial⟩
  | f :: F, o, s, h, h1, h2 => by
    obtain ⟨a, b, c⟩ := h
    have e : fsz (f :: F) = f.length + 1 + fsz F := rfl
    refine ⟨a, b, LaidF.snoc W c ?_ ?_⟩
    . rw [show o + (f.length + 1) + fsz F = o + fsz (f :: F) by rw [e]; omega, h1]
      congr 2; simp; omega
    . intro j hj
      rw [show o + (f.length + 1) + fsz F = o + fsz (f :: F) by rw [e]; omega]
      exact h2 j hj
theorem mod_ne (p log a b : Nat) (ha : a < log) (hb : b < log) (h : a ≠ b) : (p + a) % log ≠ (p + b) % log := by
  intro e
  have : a % log = b % log := by
    have h1 : (p + a) % log = (p % log + a % log) % log := Nat.add_mod p a log
    have h2 : (p + b) % log = (p % log + b % log) % log := Nat.add_mod p b log
    rw [h1, h2, Nat.mod_eq_of_lt ha, Nat.mod_eq_of_lt hb] at e
    have hp := Nat.mod_lt p (show 0 < log by omega)
    generalize p % log = q at *
    by_cases c1 : q + a < log
    . by_cases c2 : q + b < log
      . rw [Nat.mod_eq_of_lt c1, Nat.mod_eq_of_lt c2] at e; omega
      . rw [Nat.mod_eq_of_lt c1, Nat.mod_eq_sub_mod (by omega), Nat.mod_eq_of_lt (by omega)] at e; omega
    . by_cases c2 : q + b < log
      . rw [Nat.mod_eq_of_lt c2, Nat.mod_eq_sub_mod (by omega), Nat.mod_eq_of_lt (show q + a - log < log by omega)] at e; omega
      . rw [Nat.mod_eq_sub_mod (show q + a >= log by omega), Nat.mod_eq_of_lt (show q + a - log < log by omega), Nat.mod_eq_sub_mod (show q + b >= log by omega), Nat.mod_eq_of_lt (show q + b - log < log by omega)] at e; omega
  rw [Nat.mod_eq_of_lt ha, Nat.mod_eq_of_lt hb] at this
  exact h this

def JS.tgt (J : JS) : ByteArray := slotB (J.e + 1) J.next J.log (J.pos 0 - 2)
structure Good (N : Nat) (g : Nat -> ByteArray) (n : Nat) (J : JS) (F : List (List Wr)) : Prop where
  ok : J.Ok n
  n4 : n <= 4096
  lg : J.log = 60
  big : N < 1000000
  bnd : J.e <= N /\ J.next <= N
  next : J.next = J.s + F.length
  full : J.full = fsz F
  room : J.full + 1 <= J.log
  here : g J.side = slotB J.e J.s J.log J.p
  other : ∃ old m, m <= 256 /\ Older old J.e /\ g (1 - J.side) = layB J.tgt old m /\ g (1 - J.side) ≠ J.tgt
  laid : LaidF g J.log J.p 0 J.s F
  fine : ∀ f ∈ F, J.chk n f = 0
  stop : headB (g (J.pos 0)).data.toList = false

section
variable {N n : Nat} {g g' : Nat -> ByteArray} {J : JS} {F : List (List Wr)}
theorem Good.change (h : Good N g n J F) (h0 : g' J.side = g J.side) (h1 : g' (1 - J.side) = g (1 - J.side)) (hl : ∀ o, o <= J.full -> g' (2 + (J.p + o) % J.log) = g (2 + (J.p + o) % J.log)) : Good N g' n J F := by
  refine ⟨h.ok, h.n4, h.lg, h.big, h.bnd, h.next, h.full, h.room, h0.trans h.here, ?_, ?_, h.fine, ?_⟩
  . rw [h1]; exact h.other
  . exact h.laid.congr (fun i _ hi => hl i (by rw [h.full]; omega))
  . have := hl J.full (Nat.le_refl _)
    unfold JS.pos
    rw [Nat.add_zero, this]
    exact h.stop
theorem Good.more (h : Good N g n J F) {M : Nat} (hM : N <= M) (hb : M < 1000000) : Good M g n J F :=
  ⟨h.ok, h.n4, h.lg, hb, ⟨Nat.le_trans h.bnd.1 hM, Nat.le_trans h.bnd.2 hM⟩, h.next, h.full, h.room, h.here, h.other, h.laid, h.fine, h.stop⟩
theorem Good.other_lt (h : Good N g n J F) (x : Nat × Nat × Nat × Nat) (hx : rdSlot (g (1 - J.side)) n = some x) : x.1 < J.e := by
  obtain ⟨old, m, hm, ho, he, hne⟩ := h.other
  have hb := h.bnd; have hbig := h.big
  have hp := h.ok.pos_lt 0
  have h1 := h.ok.l1; have h4 := h.n4
  have hx' := hx
  rw [he] at hx
  unfold JS.tgt at hx
  rcases torn_slot (J.e + 1) J.next J.log (J.pos 0 - 2) n m old (by omega) (by omega) h1 h4 (by omega) x hx with e | e
  . have := rdSlot_bytes hx'
    rw [e] at this
    exact absurd this hne
  . obtain ⟨x0, x1, x2, x3, x4⟩ := rdSlot_ok hx
    exact ho.2 x.1 x.2.1 x.2.2.1 x.2.2.2 x3 x4 (by omega) (by omega) e
end

section
variable {N n : Nat} {J : JS} {D : DevS} {F : List (List Wr)}
def JS.fresh (J : JS) : JS := { J with next := J.s, full := 0 }
theorem find_pend (h : Good N (gd D.disk) n J F) (hn : D.disk.length = n) (hp : ∀ x ∈ D.pend, 2 <= x.1) : D.find = some J.fresh := by
  have hlog := h.ok.l0; have h1 := h.ok.l1
  have hrd : ∀ i, i < 2 -> D.slotAt i = rdSlot (gd D.disk i) n := by
    intro i hi
    unfold DevS.slotAt
    rw [if_pos (by omega), rdB_none i (fun x hx => by have := hp x hx; omega), hn]
  have hs := h.ok.si
  have hh : D.slotAt J.side = some (J.e, J.s, J.log, J.p) := by
    rw [hrd _ (by omega), h.here]
    exact rdSlot_slotB _ _ _ _ _ h.ok.e64 h.ok.s64 hlog h1 h.n4 h.ok.pl
  have ho : ∀ x, D.slotAt (1 - J.side) = some x -> x.1 < J.e := by
    intro x hx
    rw [hrd _ (by omega)] at hx
    exact h.other_lt x hx
  have hj : slotJ (J.e, J.s, J.log, J.p) J.side = J.fresh := rfl
  unfold DevS.find
  rcases Nat.lt_or_ge 0 J.side with h0 | h0
  . have e : J.side = 1 := by omega
    rw [e] at hh ho hj
    rw [show 1 - 1 = 0 from rfl] at ho
    rw [hh]
    cases h00 : D.slotAt 0 with
    | none => simp only; rw [hj]
    | some x =>
      simp only
      rw [if_pos (ho x h00), hj]
  . have e : J.side = 0 := by omega
    rw [e] at hh ho hj
    rw [hh]
    cases h11 : D.slotAt 1 with
    | none => simp only; rw [hj]
    | some x =>
      have := ho x h11
      simp only
      rw [if_neg (by omega), hj]

theorem frame_laid {g : Nat -> ByteArray} {f : List Wr} (hn : D.disk.length = n) (h4 : n <= 4096) (ok : J.Ok n) (hrd : ∀ b, 2 <= b -> b < 2 + J.log -> D.rdB b = g b) (hl : LaidF g J.log J.p J.full J.next (f :: F)) (hf : J.chk n f = 0) (hr : J.full + (f.length + 1) <= J.log) : J.frameOf D = some f := by
  obtain ⟨a, b, _⟩ := hl
  obtain ⟨l1, l2, hw⟩ := (J.chk_ok n f).1 hf
  have hw' : ∀ x ∈ f, Fr.WrOk x := fun x hx => JS.wrok_frame h4 (hw x hx)
  have hp0 := ok.pos_lt 0
  have e0 : D.rdB (J.pos 0) = bs (topL J.next f) := by
    rw [hrd _ hp0.1 hp0.2]
    show g (2 + (J.p + J.full + 0) % J.log) = _
    rw [Nat.add_zero]; exact a
  obtain ⟨t1, t2, t3, _⟩ := Fr.top_parts J.next f ok.n64 l1 l2 hw'
  have ed : (D.rdB (J.pos 0)).data.toList = topL J.next f := by rw [e0]; rfl
  have ef : J.frameAt D = packL J.next f := by
    unfold JS.frameAt packL
    rw [ed, t2, e0]
    congr 1
    apply List.ext_getElem
    . simp
    . intro i h1 h2
      have hi : i < f.length := by simpa using h1
      simp only [List.getElem_map, List.getElem_range]
      have hpi := ok.pos_lt (i + 1)
      rw [hrd _ hpi.1 hpi.2]
      exact b i hi
  have hu := Fr.unp_pack J.next f [] ok.n64 l1 l2 hw'
  rw [List.append_nil] at hu
  unfold JS.frameOf
  rw [ef, hu, ed, hn, if_pos ⟨t1, by rw [t2]; unfold JS.left; omega, rfl, rfl, hf⟩]

def JS.after (J : JS) (F : List (List Wr)) : JS := { J with next := J.next + F.length, full := J.full + fsz F }
theorem redo_laid {g : Nat -> ByteArray} (h4 : n <= 4096) : ∀ (F : List (List Wr)) (J : JS) (D : DevS) (m : Nat), D.disk.length = n -> D.dead = false -> J.Ok n -> (∀ b, b < 2 + J.log -> gd D.disk b = g b) -> (∀ x ∈ D.pend, J.home <= x.1) ->
    LaidF g J.log J.p J.full J.next F -> (∀ f ∈ F, J.chk n f = 0) -> J.full + fsz F <= J.log -> J.next + F.length < 18446744073709551616 -> headB (g (2 + (J.p + (J.full + fsz F)) % J.log)).data.toList = false -> F.length < m ->
    ∃ J', J.redoN D m = ((D.wrs F.flatten).1, (D.wrs F.flatten).2, J') /\ ((D.wrs F.flatten).1 = 0 -> J' = J.after F) := by
  intro F
  induction F with
  | nil =>
    intro J D m hn hde ok hg hp hl hf hr hx hs hm
    obtain ⟨m, rfl⟩ : ∃ k, m = k + 1 := ⟨m - 1, by simp at hm; omega⟩
    have hp0 := ok.pos_lt 0
    have e0 : D.rdB (J.pos 0) = g (J.pos 0) := by
      rw [rdB_none _ (fun x hx => by have := hp x hx; unfold JS.home at this; omega)]
      exact hg _ hp0.2
    have hnone : J.frameOf D = none := by
      unfold JS.frameOf
      rw [if_neg]
      intro hc
      rw [e0] at hc
      have : J.pos 0 = 2 + (J.p + (J.full + fsz [])) % J.log := by unfold JS.pos fsz; rfl
      rw [<- this] at hs
      rw [hs] at hc
      exact absurd hc.1 (by simp)
    exact ⟨J, redoN_none m hnone, fun _ => by unfold JS.after fsz; simp⟩
  | cons f F ih =>
    intro J D m hn hde ok hg hp hl hf hr hx hs hm
    obtain ⟨m, rfl⟩ : ∃ k, m = k + 1 := ⟨m - 1, by simp at hm; omega⟩
    have e : fsz (f :: F) = f.length + 1 + fsz F := rfl
    have hfr : J.frameOf D = some f := frame_laid (g := g) (F := F) hn h4 ok (fun b h2 hb => by
      rw [rdB_none _ (fun x hx => by have := hp x hx; unfold JS.home at this; omega)]; exact hg b hb) hl (hf f (List.mem_cons_self ..)) (by omega)
    rw [redoN_some m hfr, List.flatten_cons]
    by_cases h0 : (D.wrs f).1 = 0
    . rw [if_neg (by rw [h0]; simp), D.wrs_append f F.flatten h0]
      have hfit : Fit D.disk.length f := fun x hx => by
        obtain ⟨a, b, c⟩ := ((J.chk_ok n f).1 (hf f (List.mem_cons_self ..))).2.2 x hx
        unfold JS.home at a
        exact ⟨by omega, by rw [hn]; omega, c⟩
      obtain ⟨k, hk⟩ := wrs_cases f D hde hfit
      obtain ⟨J', h1, h2⟩ := ih (J.grow (f.length + 1)) (D.wrs f).2 m (by rw [hk.disk]; exact hn) (D.wrs_live f hde h0) (ok.grow _ (by omega)) (by rw [hk.disk]; exact hg) (by
          intro x hx
          rw [hk.pend] at hx
          rcases List.mem_append.1 hx with hx | hx
          . exact hp x hx
          . unfold natW at hx
            obtain ⟨y, hy, rfl⟩ := List.mem_map.1 hx
            obtain ⟨a, b, c⟩ := ((J.chk_ok n f).1 (hf f (List.mem_cons_self ..))).2.2 y (List.mem_of_mem_take hy)
            show J.home <= y.1.toNat
            omega) (by
          have : (J.grow (f.length + 1)).next = J.next + 1 := by
            show (J.next + 1) % 18446744073709551616 = _
            rw [List.length_cons] at hx
            exact Nat.mod_eq_of_lt (by omega)
          rw [this]
          exact hl.2.2) (fun f' h' => (chk_log (J := J.grow (f.length + 1)) (K := J) rfl n f').trans (hf f' (List.mem_cons_of_mem _ h'))) (by
          show J.full + (f.length + 1) + fsz F <= J.log; omega) (by
          have : (J.grow (f.length + 1)).next = J.next + 1 := by
            show (J.next + 1) % 18446744073709551616 = _
            rw [List.length_cons] at hx
            exact Nat.mod_eq_of_lt (by omega)
          rw [this]; rw [List.length_cons] at hx; omega) (by
          show headB (g (2 + (J.p + (J.full + (f.length + 1) + fsz F)) % J.log)).data.toList = false
          rw [show J.full + (f.length + 1) + fsz F = J.full + fsz (f :: F) by rw [e]; omega]
          exact hs) (by rw [List.length_cons] at hm; omega)
      refine ⟨J', h1, fun h => ?_⟩
      rw [h2 h]
      unfold JS.after JS.grow
      simp only
      rw [List.length_cons] at hx
      rw [Nat.mod_eq_of_lt (show J.next + 1 < _ by omega), e, List.length_cons]
      congr 1 <;> omega
    . rw [if_pos h0, D.wrs_err f F.flatten h0]
      exact ⟨_, rfl, fun h => absurd h h0⟩
end
end Go.Proofs.YthambopnmhkeeaaGreat
/- Crashes, in plain lists: behind whatever is kept of what is pending, Open finds home as the commits made it. -/
namespace Go.Proofs.YthambopnmhkeeaaGreat
open Go.RowKit
open Fr (bs fixL nmAt headB topL unp WrOk packL)

def vN (P : List (Nat × ByteArray)) (g : Nat -> ByteArray) (b : Nat) : ByteArray := match P.reverse.find? (fun x => x.1 == b) with | some x => x.2 | none => g b
theorem rdB_vN (D : DevS) (b : Nat) : D.rdB b = vN D.pend (gd D.disk) b := by unfold DevS.rdB vN gd; rfl
theorem vN_append (P Q : List (Nat × ByteArray)) (g : Nat -> ByteArray) (b : Nat) : vN (P ++ Q) g b = vN Q (vN P g) b := by
  unfold vN
  rw [List.reverse_append, List.find?_append]
  cases Q.reverse.find? (fun x => x.1 == b) <;> rfl
theorem vN_none {P : List (Nat × ByteArray)} {g : Nat -> ByteArray} {b : Nat} (h : ∀ x ∈ P, x.1 ≠ b) : vN P g b = g b := by
  unfold vN
  have : P.reverse.find? (fun x => x.1 == b) = none := by
    rw [List.find?_eq_none]; intro x hx; have := h x (List.mem_reverse.1 hx); simpa using this
  rw [this]
theorem vN_hit {P : List (Nat × ByteArray)} {g g' : Nat -> ByteArray} {b : Nat} (h : (∃ x ∈ P, x.1 = b) \/ g b = g' b) : vN P g b = vN P g' b := by
  unfold vN
  cases hf : P.reverse.find? (fun x => x.1 == b) with
  | some x => rfl
  | none =>
    rcases h with ⟨x, hx, rfl⟩ | h
    . rw [List.find?_eq_none] at hf
      have := hf x (List.mem_reverse.2 hx)
      simp at this
    . exact h
theorem vN_at {P Q : List (Nat × ByteArray)} {x : Nat × ByteArray} {g : Nat -> ByteArray} (h : ∀ y ∈ Q, y.1 ≠ x.1) : vN (P ++ x :: Q) g x.1 = x.2 := by
  rw [vN_append, show x :: Q = [x] ++ Q from rfl, vN_append, vN_none h]
  unfold vN; simp

theorem laid256 {P : List (Nat × ByteArray)} {d : List ByteArray} (b : Nat) (hb : b < d.length) (hd : ∀ s ∈ d, s.size = 256) (hp : ∀ x ∈ P, x.1 < d.length /\ x.2.size = 256) : gd (laidTo (fun _ => 256) P d P.length) b = vN P (gd d) b := by
  have := (laidTo_get (fun _ => 256) P d P.length b (Nat.le_refl _) (fun _ _ => rfl) hb hd hp).1
  unfold gd vN
  rw [this, List.take_length]
  rfl

structure Rec (N n : Nat) (d : List ByteArray) (H : Nat -> ByteArray) (J : JS) (F : List (List Wr)) : Prop where
  len : d.length = n
  whole : ∀ s ∈ d, s.size = 256
  good : Good N (gd d) n J F
  view : ∀ b, 62 <= b -> b < n -> vN (natW F.flatten) (gd d) b = H b
def Safe (N n : Nat) (D : DevS) (P : (Nat -> ByteArray) -> Prop) : Prop := ∀ f : Nat -> Nat, (∀ k, f k <= 256) -> ∃ H J F, P H /\ Rec N n (laidTo f D.pend D.disk D.pend.length) H J F
theorem Safe.mono {N n : Nat} {D : DevS} {P Q : (Nat -> ByteArray) -> Prop} (h : Safe N n D P) (hq : ∀ H, P H -> Q H) : Safe N n D Q := fun f hf => by
  obtain ⟨H, J, F, h1, h2⟩ := h f hf; exact ⟨H, J, F, hq H h1, h2⟩
theorem Rec.more {N M n : Nat} {d : List ByteArray} {H : Nat -> ByteArray} {J : JS} {F : List (List Wr)} (h : Rec N n d H J F) (hM : N <= M) (hb : M < 1000000) : Rec M n d H J F := ⟨h.len, h.whole, h.good.more hM hb, h.view⟩

structure Pre (N n : Nat) (J : JS) (D : DevS) (H : Nat -> ByteArray) (F : List (List Wr)) : Prop where
  dok : D.Ok
  live : D.dead = false
  len : D.disk.length = n
  good : Good N (gd D.disk) n J F
  pend : ∀ x ∈ D.pend, 62 <= x.1 /\ ∃ y ∈ natW F.flatten, y.1 = x.1
  view : ∀ b, 62 <= b -> b < n -> vN (natW F.flatten) (gd D.disk) b = H b
  read : ∀ b, 62 <= b -> b < n -> D.rdB b = H b
structure Sync (N n : Nat) (J : JS) (D : DevS) (H : Nat -> ByteArray) (F : List (List Wr)) : Prop where
  pre : Pre N n J D H F
  zero : gd D.disk (J.pos 0) = noughts
  older : Older (gd D.disk (1 - J.side)) J.e

section
variable {N n : Nat} {J : JS} {D : DevS} {H : Nat -> ByteArray} {F : List (List Wr)}

def Harm (J : JS) (F : List (List Wr)) (x : Nat × ByteArray) : Prop := (62 <= x.1 /\ ∃ y ∈ natW F.flatten, y.1 = x.1) \/ ∃ o, J.full < o /\ o < J.log /\ x.1 = 2 + (J.p + o) % J.log
theorem good_low (h : Good N (gd D.disk) n J F) {P : List (Nat × ByteArray)} (hp : ∀ x ∈ P, Harm J F x) : (∀ x ∈ P, x.1 ≠ J.side /\ x.1 ≠ 1 - J.side /\ 2 <= x.1) /\ (∀ x ∈ P, ∀ o, o <= J.full -> x.1 ≠ 2 + (J.p + o) % J.log) := by
  have hs := h.ok.si; have hr := h.room; have hl := h.lg
  refine ⟨fun x hx => ?_, fun x hx o ho => ?_⟩
  . rcases hp x hx with ⟨h1, _⟩ | ⟨o, _, _, h1⟩
    . omega
    . omega
  . rcases hp x hx with ⟨h1, _⟩ | ⟨o', ho1, ho2, h1⟩
    . have := Nat.mod_lt (J.p + o) (show 0 < J.log by omega); omega
    . have := mod_ne J.p J.log o' o ho2 (by omega) (by omega); omega
theorem harm_rec {f : Nat -> Nat} (hf : ∀ k, f k <= 256) (ok : D.Ok) (hn : D.disk.length = n) (h : Good N (gd D.disk) n J F) (hv : ∀ b, 62 <= b -> b < n -> vN (natW F.flatten) (gd D.disk) b = H b) (hp : ∀ x ∈ D.pend, Harm J F x) :
    Rec N n (laidTo f D.pend D.disk D.pend.length) H J F := by
  obtain ⟨h1, h2⟩ := good_low h hp
  refine ⟨by rw [laidTo_length]; exact hn, (ok.settled f (fun k _ => hf k)).whole, ?_, fun b hb hbn => ?_⟩
  . exact h.change (laid_other _ _ (fun x hx => (h1 x hx).1)) (laid_other _ _ (fun x hx => (h1 x hx).2.1)) (fun o ho => laid_other _ _ (fun x hx => h2 x hx o ho))
  . rw [<- hv b hb hbn]
    apply vN_hit
    by_cases hx : ∃ x ∈ natW F.flatten, x.1 = b
    . exact .inl hx
    . refine .inr (laid_other _ _ (fun x hxp e => ?_))
      rcases hp x hxp with ⟨_, y, hy, hye⟩ | ⟨o, _, _, h5⟩
      . exact hx ⟨y, hy, hye.trans e⟩
      . have := Nat.mod_lt (J.p + o) (show 0 < J.log by have := h.lg; omega)
        have := h.lg
        omega
theorem Pre.safe (h : Pre N n J D H F) : Safe N n D (· = H) := fun _ hf => ⟨H, J, F, rfl, harm_rec hf h.dok h.len h.good h.view (fun x hx => .inl (h.pend x hx))⟩
end
end Go.Proofs.YthambopnmhkeeaaGreat
/- A checkpoint, at whatever turn the power goes: in plain lists. -/
namespace Go.Proofs.YthambopnmhkeeaaGreat
open Go.RowKit
open Fr (bs fixL nmAt headB topL unp WrOk packL)

section
variable {N n : Nat} {J : JS} {D : DevS} {H : Nat -> ByteArray} {F : List (List Wr)}

theorem ck_zero' {D : DevS} {i : Int} (h1 : D.ck i = 0) : D.dead = false /\ 0 <= i /\ i < D.disk.length := by
  unfold DevS.ck at h1
  split at h1
  . omega
  . rename_i hd
    split at h1
    . omega
    . exact ⟨by simpa using hd, by omega, by omega⟩
theorem slot_inj {e s log p e' s' log' p' : Nat} (he : e < 18446744073709551616) (hs : s < 18446744073709551616) (hl : log < 4294967296) (hp : p < 4294967296)
    (he' : e' < 18446744073709551616) (hs' : s' < 18446744073709551616) (hl' : log' < 4294967296) (hp' : p' < 4294967296) (h : slotB e s log p = slotB e' s' log' p') : e = e' := by
  have h2 : halfL e s log p ++ halfL e s log p = halfL e' s' log' p' ++ halfL e' s' log' p' := Fr.bs_eq h
  have := congrArg (List.take 128) h2
  rw [List.take_left' (halfL_len ..), List.take_left' (halfL_len ..)] at this
  exact (half_inj he hs hl hp he' hs' hl' hp' this).1
theorem next_pos (ok : J.Ok n) : J.next'.pos 0 = J.pos 0 := by
  have hl := ok.l0
  show 2 + ((2 + (J.p + J.full + 0) % J.log) - 2 + 0 + 0) % J.log = 2 + (J.p + J.full + 0) % J.log
  rw [Nat.add_sub_cancel_left, Nat.add_zero, Nat.add_zero, Nat.mod_mod]
theorem good_next {g : Nat -> ByteArray} (h : Good N (gd D.disk) n J F) (hN : N + 1 < 1000000) (h0 : g J.side = gd D.disk J.side) (h1 : g (1 - J.side) = J.tgt) (hz : g (J.pos 0) = noughts) :
    Good (N + 1) g n J.next' [] /\ Older (g (1 - J.next'.side)) J.next'.e /\ g (J.next'.pos 0) = noughts := by
  have hb := h.bnd; have hl := h.lg; have hs := h.ok.si; have h4 := h.n4; have hpl := h.ok.pl; have hp0 := h.ok.pos_lt 0
  have hs64 := h.ok.s64
  have e1 : J.next'.e = J.e + 1 := Nat.mod_eq_of_lt (by omega)
  have es : 1 - J.next'.side = J.side := by show 1 - (1 - J.side) = J.side; omega
  have ez := next_pos h.ok
  have hside : g (1 - J.next'.side) = slotB J.e J.s J.log J.p := by rw [es, h0]; exact h.here
  have hold : Older (g (1 - J.next'.side)) J.next'.e := by
    rw [hside, e1]; exact older_slot _ _ _ _ h.ok.e64 hs64 (by omega) (by omega)
  have ok' := h.ok.next'
  have hp' := ok'.pos_lt 0
  refine ⟨⟨ok', h4, hl, hN, ⟨by rw [e1]; omega, by show J.next <= _; omega⟩, rfl, rfl, by show 0 + 1 <= J.log; omega, ?_, ?_, trivial, fun f hf => (by cases hf), ?_⟩, hold, by rw [ez]; exact hz⟩
  . show g (1 - J.side) = slotB J.next'.e J.next J.log (J.pos 0 - 2)
    rw [e1, h1]; rfl
  . refine ⟨g (1 - J.next'.side), 0, Nat.zero_le _, hold, by rw [layB_none], ?_⟩
    rw [hside]
    intro e
    have hll : J.next'.log = J.log := rfl
    rw [hll] at hp'
    have := slot_inj h.ok.e64 hs64 (by omega) (by omega) (by rw [e1]; omega) (by show J.next < _; omega) (by show J.log < _; omega) (by omega) e
    rw [e1] at this
    omega
  . rw [ez, hz]; exact headB_noughts
theorem Good.swap {g g' : Nat -> ByteArray} (h : Good N g n J F) (h0 : g' J.side = g J.side) (h1 : g' (1 - J.side) = g (1 - J.side)) (hl : ∀ o, o < J.full -> g' (2 + (J.p + o) % J.log) = g (2 + (J.p + o) % J.log)) (hs : headB (g' (J.pos 0)).data.toList = false) : Good N g' n J F := by
  refine ⟨h.ok, h.n4, h.lg, h.big, h.bnd, h.next, h.full, h.room, h0.trans h.here, ?_, ?_, h.fine, hs⟩
  . rw [h1]; exact h.other
  . exact h.laid.congr (fun i _ hi => hl i (by rw [h.full]; omega))
theorem wr_ok (ok : D.Ok) (i : Int) (s : ByteArray) : (D.wr i s).2.Ok := by
  unfold DevS.wr
  split
  . exact ok
  . rename_i h1
    split
    . exact ok
    . rename_i h2
      split
      . exact ok.tk
      . have hk : D.ck i = 0 := by simpa using h1
        obtain ⟨_, h3, h4⟩ := ck_zero' hk
        have t := ok.tk
        refine ⟨t.some, t.few, t.whole, fun x hx => ?_, t.fuse0, t.fuse1⟩
        simp only [List.mem_append, List.mem_singleton] at hx
        show x.1 < D.tk.2.disk.length /\ _
        rw [DevS.tk_disk]
        rcases hx with hx | rfl
        . exact ok.pends x hx
        . exact ⟨by simp only; omega, by simpa using h2⟩
theorem wrs_ok (W : List Wr) : ∀ D : DevS, D.Ok -> (D.wrs W).2.Ok := by
  induction W with
  | nil => intro D ok; exact ok
  | cons x r ih =>
    intro D ok
    unfold DevS.wrs
    split
    . exact wr_ok ok _ _
    . exact ih _ (wr_ok ok _ _)
theorem fl_ok (ok : D.Ok) : D.fl.2.Ok := by
  unfold DevS.fl
  split
  . exact ok
  . split
    . exact ok.tk
    . have h := ok.settled (fun _ => 256) (fun _ _ => Nat.le_refl _)
      have t := ok.tk
      exact ⟨h.some, h.few, h.whole, fun x hx => (by cases hx), t.fuse0, t.fuse1⟩
theorem stl_ok {W : List Wr} (ok : D.Ok) (_hf : Fit D.disk.length W) : (D.stl W).2.Ok := by
  unfold DevS.stl
  split
  . exact wrs_ok W D ok
  . exact fl_ok (wrs_ok W D ok)
theorem list_take_one {α : Type} (x : α) (k : Nat) (h : k <= [x].length) : [x].take k = [] \/ [x].take k = [x] := by
  have : k = 0 \/ k = 1 := by simp at h; omega
  rcases this with rfl | rfl
  . exact .inl rfl
  . exact .inr rfl

theorem ckp_safe (h : Pre N n J D H F) (hN : N + 1 < 1000000) :
    ((J.ckp D).1 = 0 /\ Sync (N + 1) n (J.ckp D).2.2 (J.ckp D).2.1 H [] /\ (J.ckp D).2.2 = J.next' /\ (J.ckp D).2.1.pend = []) \/ ((J.ckp D).1 = 4 /\ (J.ckp D).2.1.dead = true /\ (J.ckp D).2.1.Ok /\ (J.ckp D).2.1.disk.length = n /\ Safe (N + 1) n (J.ckp D).2.1 (· = H)) := by
  have hg := h.good
  have hb := hg.bnd; have hl := hg.lg; have hs := hg.ok.si; have hp0 := hg.ok.pos_lt 0; have hl1 := hg.ok.l1
  have hpq : gd D.disk = gd D.disk := rfl
  have hmod : (J.e + 1) % 18446744073709551616 = J.e + 1 := Nat.mod_eq_of_lt (by omega)
  have hpend0 : ∀ x ∈ D.pend, x.1 ≠ J.pos 0 := fun x hx => by have := (h.pend x hx).1; omega
  have hfit1 : Fit D.disk.length [(((J.pos 0 : Nat) : Int), noughts)] := by
    intro x hx; simp at hx; subst hx; rw [h.len]; exact ⟨by simp, by simp only; omega, noughts_size⟩
  have hnat1 : natW [(((J.pos 0 : Nat) : Int), noughts)] = [(J.pos 0, noughts)] := by simp [natW]
  have hlow : ∀ x ∈ D.pend, ∀ b, b < 62 -> x.1 ≠ b := fun x hx b hb => by have := (h.pend x hx).1; omega
  have hoff : ∀ o, 2 + (J.p + o) % J.log < 62 := fun o => by have := Nat.mod_lt (J.p + o) (show 0 < J.log by omega); omega
  have hpos0 : J.pos 0 = 2 + (J.p + J.full) % J.log := rfl
  have hr := hg.room
  unfold JS.ckp
  simp only
  rcases stl_cases D _ h.live hfit1 with ⟨a1, a2, a3, a4⟩ | ⟨a1, a2, a3, k, hk, a4⟩
  . rw [if_neg (by rw [a1]; simp)]
    have ok1 : (D.stl [(((J.pos 0 : Nat) : Int), noughts)]).2.Ok := stl_ok h.dok hfit1
    generalize hD1 : (D.stl [(((J.pos 0 : Nat) : Int), noughts)]).2 = D1 at *
    rw [hnat1] at a3
    have hpp : ∀ x ∈ D.pend ++ [(J.pos 0, noughts)], x.1 < D.disk.length /\ x.2.size = 256 := by
      intro x hx
      rcases List.mem_append.1 hx with hx | hx
      . exact h.dok.pends x hx
      . simp at hx; subst hx; exact ⟨by rw [h.len]; simp only; omega, noughts_size⟩
    have len1 : D1.disk.length = n := by rw [a3, laidTo_length]; exact h.len
    have g1 : ∀ b, b < n -> gd D1.disk b = vN (D.pend ++ [(J.pos 0, noughts)]) (gd D.disk) b := fun b hb => by
      rw [a3]; exact laid256 b (by rw [h.len]; exact hb) h.dok.whole hpp
    have g1z : gd D1.disk (J.pos 0) = noughts := by rw [g1 _ (by omega)]; exact vN_at (P := D.pend) (Q := []) (x := (J.pos 0, noughts)) (fun y hy => by cases hy)
    have g1l : ∀ b, b < 62 -> b ≠ J.pos 0 -> gd D1.disk b = gd D.disk b := fun b hb hne => by
      rw [g1 b (by omega)]
      exact vN_none (fun x hx => by
        rcases List.mem_append.1 hx with hx | hx
        . exact hlow x hx b hb
        . simp at hx; subst hx; exact fun e => hne e.symm)
    have g1h : ∀ b, 62 <= b -> b < n -> gd D1.disk b = H b := fun b hb hbn => by
      rw [g1 b hbn, vN_append, vN_none (P := [(J.pos 0, noughts)]) (fun x hx => by simp at hx; subst hx; simp only; omega), <- rdB_vN]
      exact h.read b hb hbn
    have good1 : Good N (gd D1.disk) n J F := by
      have := hg.swap (g' := gd D1.disk) (g1l _ (by omega) (by omega)) (g1l _ (by omega) (by omega)) (fun o ho => g1l _ (hoff o) (by rw [hpos0]; have := mod_ne J.p J.log o J.full (by omega) (by omega) (by omega); omega)) (by rw [g1z]; exact headB_noughts)
      exact this
    have view1 : ∀ b, 62 <= b -> b < n -> vN (natW F.flatten) (gd D1.disk) b = H b := fun b hb hbn => by
      by_cases hx : ∃ x ∈ natW F.flatten, x.1 = b
      . rw [vN_hit (g' := gd D.disk) (.inl hx)]; exact h.view b hb hbn
      . rw [vN_none (fun x hx' e => hx ⟨x, hx', e⟩)]; exact g1h b hb hbn
    have htg : slotB ((J.e + 1) % 18446744073709551616) J.next J.log (J.pos 0 - 2) = J.tgt := by rw [hmod]; rfl
    rw [htg]
    have htz : J.tgt.size = 256 := slotB_size _ _ _ _
    have hfit2 : Fit D1.disk.length [(((1 - J.side : Nat) : Int), J.tgt)] := by
      intro x hx; simp only [List.mem_singleton] at hx; subst hx; rw [len1]; exact ⟨by simp only; omega, by simp only; omega, htz⟩
    have hnat2 : natW [(((1 - J.side : Nat) : Int), J.tgt)] = [(1 - J.side, J.tgt)] := by simp [natW]
    rcases stl_cases D1 _ a2 hfit2 with ⟨b1, b2, b3, b4⟩ | ⟨b1, b2, b3, k, hk, b4⟩
    . left
      rw [if_neg (by rw [b1]; simp)]
      have ok2 : (D1.stl [(((1 - J.side : Nat) : Int), J.tgt)]).2.Ok := stl_ok ok1 hfit2
      generalize hD2 : (D1.stl [(((1 - J.side : Nat) : Int), J.tgt)]).2 = D2 at *
      rw [hnat2, a4, List.nil_append] at b3
      have hpp2 : ∀ x ∈ [(1 - J.side, J.tgt)], x.1 < D1.disk.length /\ x.2.size = 256 := by
        intro x hx; simp at hx; subst hx; exact ⟨by rw [len1]; simp only; omega, htz⟩
      have len2 : D2.disk.length = n := by rw [b3, laidTo_length]; exact len1
      have g2 : ∀ b, b < n -> gd D2.disk b = vN [(1 - J.side, J.tgt)] (gd D1.disk) b := fun b hb => by
        rw [b3]; exact laid256 b (by rw [len1]; exact hb) ok1.whole hpp2
      have g2s : gd D2.disk (1 - J.side) = J.tgt := by rw [g2 _ (by omega)]; exact vN_at (P := []) (Q := []) (x := (1 - J.side, J.tgt)) (fun y hy => by cases hy)
      have g2o : ∀ b, b < n -> b ≠ 1 - J.side -> gd D2.disk b = gd D1.disk b := fun b hb hne => by
        rw [g2 b hb]; exact vN_none (fun x hx => by simp at hx; subst hx; exact fun e => hne e.symm)
      obtain ⟨q1, q2, q3⟩ := good_next (g := gd D2.disk) good1 hN (g2o _ (by omega) (by omega)) g2s (by rw [g2o _ (by omega) (by omega)]; exact g1z)
      refine ⟨rfl, ⟨⟨ok2, b2, len2, q1, (by rw [b4]; intro x hx; cases hx), fun b hb hbn => ?_, fun b hb hbn => ?_⟩, q3, q2⟩, rfl, b4⟩
      . rw [vN_none (fun x hx => by simp [natW] at hx), g2o b hbn (by omega)]; exact g1h b hb hbn
      . rw [rdB_none b (by rw [b4]; intro x hx; cases hx), g2o b hbn (by omega)]; exact g1h b hb hbn
    . right
      rw [if_pos (by rw [b1]; simp)]
      have ok2 : (D1.stl [(((1 - J.side : Nat) : Int), J.tgt)]).2.Ok := stl_ok ok1 hfit2
      refine ⟨b1, b2, ok2, by rw [b3]; exact len1, fun f hf => ?_⟩
      have hsz := (ok2.settled f (fun k _ => hf k)).whole
      simp only at hsz
      rw [b3, b4, a4, List.nil_append] at hsz ⊢
      rcases list_take_one _ k hk with e | e
      . rw [e] at hsz ⊢
        exact ⟨H, J, F, rfl, ⟨len1, ok1.whole, good1.more (by omega) hN, view1⟩⟩
      . rw [e, hnat2] at hsz ⊢
        have g2s := laid_one (f := f) (P := []) (disk := D1.disk) (1 - J.side) J.tgt (fun y hy => by cases hy) (by omega)
        have g2o : ∀ b, b ≠ 1 - J.side -> gd (laidTo f ([] ++ [(1 - J.side, J.tgt)]) D1.disk ([] ++ [(1 - J.side, J.tgt)]).length) b = gd D1.disk b := fun b hne => laid_other b _ (fun x hx => by simp at hx; subst hx; exact fun e => hne e.symm)
        rw [List.nil_append] at g2s g2o
        have len2 : (laidTo f [(1 - J.side, J.tgt)] D1.disk [(1 - J.side, J.tgt)].length).length = n := by rw [laidTo_length]; exact len1
        generalize laidTo f [(1 - J.side, J.tgt)] D1.disk [(1 - J.side, J.tgt)].length = d2 at *
        by_cases hT : gd d2 (1 - J.side) = J.tgt
        . obtain ⟨q1, q2, q3⟩ := good_next (g := gd d2) good1 hN (g2o _ (by omega)) hT (by rw [g2o _ (by omega)]; exact g1z)
          refine ⟨H, J.next', [], rfl, ⟨len2, hsz, q1, fun b hb hbn => ?_⟩⟩
          rw [vN_none (fun x hx => by simp [natW] at hx), g2o b (by omega)]; exact g1h b hb hbn
        . obtain ⟨old, m, hm, ho, he, _⟩ := good1.other
          have hc : Good N (gd d2) n J F := by
            refine ⟨hg.ok, hg.n4, hg.lg, hg.big, hg.bnd, hg.next, hg.full, hg.room, by rw [g2o _ (by omega)]; exact good1.here, ?_, ?_, hg.fine, ?_⟩
            . refine ⟨old, max m (f 0), by have := hf 0; omega, ho, ?_, hT⟩
              rw [g2s, he, layB_twice _ _ _ _ htz hm]; rfl
            . exact good1.laid.congr (fun i _ _ => g2o _ (by omega))
            . rw [g2o _ (by omega)]; exact good1.stop
          refine ⟨H, J, F, rfl, ⟨len2, hsz, hc.more (by omega) hN, fun b hb hbn => ?_⟩⟩
          rw [vN_hit (g' := gd D1.disk) (.inr (g2o b (by omega)))]; exact view1 b hb hbn
  . right
    rw [if_pos (by rw [a1]; simp)]
    have ok1 : (D.stl [(((J.pos 0 : Nat) : Int), noughts)]).2.Ok := stl_ok h.dok hfit1
    refine ⟨a1, a2, ok1, by rw [a3]; exact h.len, fun f hf => ?_⟩
    have hsz := (ok1.settled f (fun k _ => hf k)).whole
    simp only at hsz
    rw [a3, a4] at hsz ⊢
    rcases list_take_one _ k hk with e | e
    . rw [e] at hsz ⊢
      have en : natW ([] : List Wr) = [] := rfl
      rw [en, List.append_nil] at hsz ⊢
      obtain ⟨H', J', F', hH, hR⟩ := h.safe f hf
      exact ⟨H', J', F', hH, hR.more (by omega) hN⟩
    . rw [e, hnat1] at hsz ⊢
      have g2s := laid_one (f := f) (P := D.pend) (disk := D.disk) (J.pos 0) noughts hpend0 (by rw [h.len]; omega)
      have g2l : ∀ b, b < 62 -> b ≠ J.pos 0 -> gd (laidTo f (D.pend ++ [(J.pos 0, noughts)]) D.disk (D.pend ++ [(J.pos 0, noughts)]).length) b = gd D.disk b := fun b hb hne => laid_other b _ (fun x hx => by
        rcases List.mem_append.1 hx with hx | hx
        . exact hlow x hx b hb
        . simp at hx; subst hx; exact fun e => hne e.symm)
      have g2h : ∀ b, 62 <= b -> (¬ ∃ x ∈ natW F.flatten, x.1 = b) -> gd (laidTo f (D.pend ++ [(J.pos 0, noughts)]) D.disk (D.pend ++ [(J.pos 0, noughts)]).length) b = gd D.disk b := fun b hb hno => laid_other b _ (fun x hx e => by
        rcases List.mem_append.1 hx with hx | hx
        . obtain ⟨_, y, hy, hye⟩ := h.pend x hx
          exact hno ⟨y, hy, hye.trans e⟩
        . simp at hx; subst hx; simp only at e; omega)
      have len2 : (laidTo f (D.pend ++ [(J.pos 0, noughts)]) D.disk (D.pend ++ [(J.pos 0, noughts)]).length).length = n := by rw [laidTo_length]; exact h.len
      generalize laidTo f (D.pend ++ [(J.pos 0, noughts)]) D.disk (D.pend ++ [(J.pos 0, noughts)]).length = d2 at *
      have hc : Good N (gd d2) n J F := hg.swap (g2l _ (by omega) (by omega)) (g2l _ (by omega) (by omega)) (fun o ho => g2l _ (hoff o) (by rw [hpos0]; have := mod_ne J.p J.log o J.full (by omega) (by omega) (by omega); omega)) (by rw [g2s]; exact torn_noughts _ _ hg.stop)
      refine ⟨H, J, F, rfl, ⟨len2, hsz, hc.more (by omega) hN, fun b hb hbn => ?_⟩⟩
      by_cases hx : ∃ x ∈ natW F.flatten, x.1 = b
      . rw [vN_hit (g' := gd D.disk) (.inl hx)]; exact h.view b hb hbn
      . rw [vN_hit (g' := gd D.disk) (.inr (g2h b hb hx))]; exact h.view b hb hbn
end
end Go.Proofs.YthambopnmhkeeaaGreat
/- A commit, and Open, at whatever turn the power goes: in plain lists. -/
namespace Go.Proofs.YthambopnmhkeeaaGreat
open Go.RowKit
open Fr (bs fixL nmAt headB topL unp WrOk packL)

section
variable {N n : Nat} {J : JS} {D : DevS} {H : Nat -> ByteArray} {F : List (List Wr)} {L : List Wr}

theorem vN_unique {P : List (Nat × ByteArray)} {g : Nat -> ByteArray} {x : Nat × ByteArray} (hx : x ∈ P) (hu : ∀ y ∈ P, y.1 = x.1 -> y = x) : vN P g x.1 = x.2 := by
  unfold vN
  cases hf : P.reverse.find? (fun y => y.1 == x.1) with
  | none =>
    rw [List.find?_eq_none] at hf
    have := hf x (List.mem_reverse.2 hx)
    simp at this
  | some y =>
    have h1 := List.mem_reverse.1 (List.mem_of_find?_eq_some hf)
    have h2 : y.1 = x.1 := by simpa using List.find?_some hf
    simp only [hu y h1 h2]
theorem dataP (J : JS) (ds : List ByteArray) : natW (J.dataW ds) = (List.range (ds.length + 1)).map fun j => (J.pos (j + 1), (ds ++ [noughts]).getD j ByteArray.empty) := by
  unfold natW JS.dataW
  rw [List.map_append, List.map_map, List.range_succ, List.map_append]
  congr 1
  . apply List.map_congr_left
    intro i hi
    have : i < ds.length := List.mem_range.1 hi
    simp [List.getD, List.getElem?_append_left this]
  . simp [List.getD]
theorem pos_off (J : JS) (j : Nat) : J.pos j = 2 + (J.p + (J.full + j)) % J.log := by unfold JS.pos; rw [Nat.add_assoc]
theorem dataP_harm (h : J.full + L.length + 2 <= J.log) (x : Nat × ByteArray) (hx : x ∈ natW (J.dataW (L.map (·.2)))) : ∃ o, J.full < o /\ o < J.log /\ x.1 = 2 + (J.p + o) % J.log := by
  rw [dataP] at hx
  obtain ⟨j, hj, rfl⟩ := List.mem_map.1 hx
  have hj' := List.mem_range.1 hj
  rw [List.length_map] at hj'
  exact ⟨J.full + (j + 1), by omega, by omega, pos_off J (j + 1)⟩
theorem pos_ne (ok : J.Ok n) (i j : Nat) (hi : J.full + i < J.log) (hj : J.full + j < J.log) (h : i ≠ j) : J.pos i ≠ J.pos j := by
  rw [pos_off, pos_off]
  have := mod_ne J.p J.log (J.full + i) (J.full + j) hi hj (by omega)
  omega
theorem dataP_at (ok : J.Ok n) (h : J.full + L.length + 2 <= J.log) (Q : List (Nat × ByteArray)) (g : Nat -> ByteArray) (j : Nat) (hj : j <= L.length) :
    vN (Q ++ natW (J.dataW (L.map (·.2)))) g (J.pos (j + 1)) = (L.map (·.2) ++ [noughts]).getD j ByteArray.empty := by
  rw [vN_append, dataP]
  refine vN_unique (x := (J.pos (j + 1), (L.map (·.2) ++ [noughts]).getD j ByteArray.empty)) (List.mem_map.2 ⟨j, List.mem_range.2 (by rw [List.length_map]; omega), rfl⟩) ?_
  intro y hy he
  obtain ⟨i, hi, rfl⟩ := List.mem_map.1 hy
  have hi' := List.mem_range.1 hi
  rw [List.length_map] at hi'
  by_cases e : i = j
  . rw [e]
  . exact absurd he (pos_ne ok (i + 1) (j + 1) (by omega) (by omega) (by omega))

def put (H : Nat -> ByteArray) (L : List Wr) : Nat -> ByteArray := vN (natW L) H
theorem good_grow {g g' : Nat -> ByteArray} (h : Good N g n J F) (hN : N + 1 < 1000000) (hc : J.chk n L = 0) (hr : J.full + L.length + 2 <= J.log) (hold : Older (g' (1 - J.side)) J.e) (h0 : g' J.side = g J.side)
    (hl : ∀ o, o < J.full -> g' (2 + (J.p + o) % J.log) = g (2 + (J.p + o) % J.log)) (ht : g' (J.pos 0) = bs (topL J.next L)) (hd : ∀ j (hj : j < L.length), g' (J.pos (j + 1)) = L[j].2) (hz : g' (J.pos (L.length + 1)) = noughts) :
    Good (N + 1) g' n (J.grow (L.length + 1)) (F ++ [L]) /\ g' ((J.grow (L.length + 1)).pos 0) = noughts := by
  have hb := h.bnd
  have en : (J.grow (L.length + 1)).next = J.next + 1 := Nat.mod_eq_of_lt (by omega)
  have ez : (J.grow (L.length + 1)).pos 0 = J.pos (L.length + 1) := by
    show 2 + (J.p + (J.full + (L.length + 1)) + 0) % J.log = _
    rw [Nat.add_zero, pos_off]
  have ok' := h.ok.grow (L.length + 1) (by omega)
  refine ⟨⟨ok', h.n4, h.lg, hN, ⟨by show J.e <= _; omega, by rw [en]; omega⟩, by rw [en, h.next, List.length_append]; rfl, by show J.full + (L.length + 1) = _; rw [fsz_append, h.full]; rfl, by show J.full + (L.length + 1) + 1 <= J.log; omega, h0.trans h.here, ?_, ?_, ?_, by rw [ez, hz]; exact headB_noughts⟩, by rw [ez]; exact hz⟩
  . refine ⟨g' (1 - J.side), 0, Nat.zero_le _, hold, by rw [layB_none]; rfl, fun e => ?_⟩
    have hp' := ok'.pos_lt 0
    have hll : (J.grow (L.length + 1)).log = J.log := rfl
    rw [hll] at hp'
    have hlg := h.lg
    have h128 : (g' (1 - J.side)).data.toList.drop 128 = halfL (J.e + 1) (J.grow (L.length + 1)).next J.log ((J.grow (L.length + 1)).pos 0 - 2) := by
      have e' : g' (1 - J.side) = slotB (J.e + 1) (J.grow (L.length + 1)).next J.log ((J.grow (L.length + 1)).pos 0 - 2) := e
      rw [e']
      show (halfL _ _ _ _ ++ halfL _ _ _ _).drop 128 = _
      rw [List.drop_left' (halfL_len ..)]
    have := hold.2 _ _ _ _ (by omega) (by rw [en]; omega) (by omega) (by omega) h128
    omega
  . have hl0 : LaidF g' J.log J.p 0 J.s F := h.laid.congr (fun i _ hi => hl i (by rw [h.full]; omega))
    refine hl0.snoc L ?_ ?_
    . rw [Nat.zero_add, <- h.full, <- h.next]
      have := pos_off J 0
      rw [Nat.add_zero] at this
      rw [<- this]; exact ht
    . intro j hj
      rw [Nat.zero_add, <- h.full, Nat.add_assoc, <- pos_off]
      exact hd j hj
  . intro f hf
    rw [chk_log (J := J.grow (L.length + 1)) (K := J) rfl]
    rcases List.mem_append.1 hf with hf | hf
    . exact h.fine f hf
    . simp at hf; subst hf; exact hc
theorem flat_snoc (F : List (List Wr)) (L : List Wr) : natW (F ++ [L]).flatten = natW F.flatten ++ natW L := by
  rw [List.flatten_append, natW_append]; simp

theorem add_safe (h : Sync N n J D H F) (hN : N + 1 < 1000000) (hc : J.chk n L = 0) (hr : J.full + L.length + 2 <= J.log) (R : Int × DevS × JS) (hR : R = J.addF D (bs (topL J.next L)) (L.map (·.2))) :
    (R.1 = 4 /\ R.2.1.dead = true /\ R.2.1.Ok /\ R.2.1.disk.length = n /\ Safe (N + 1) n R.2.1 (fun X => X = H \/ X = put H L)) \/
    (R.1 = 0 /\ R.2.2 = J.grow (L.length + 1) /\ (((R.2.1.wrs L).1 = 0 /\ Sync (N + 1) n (J.grow (L.length + 1)) (R.2.1.wrs L).2 (put H L) (F ++ [L])) \/ ((R.2.1.wrs L).1 = 4 /\ (R.2.1.wrs L).2.dead = true /\ (R.2.1.wrs L).2.Ok /\ (R.2.1.wrs L).2.disk.length = n /\ Safe (N + 1) n (R.2.1.wrs L).2 (fun X => X = H \/ X = put H L)))) := by
  have hp := h.pre
  have hg := hp.good
  have hb := hg.bnd; have hlg := hg.lg; have hs := hg.ok.si; have hp0 := hg.ok.pos_lt 0; have hl1 := hg.ok.l1; have h4 := hg.n4
  obtain ⟨l1, l2, hw⟩ := (J.chk_ok n L).1 hc
  have hw' : ∀ x ∈ L, Fr.WrOk x := fun x hx => JS.wrok_frame h4 (hw x hx)
  have hhome : J.home = 62 := by unfold JS.home; omega
  have htop : (bs (topL J.next L)).size = 256 := by rw [Fr.bs_len, Fr.topL_len _ _ l2]
  have hnl : ∀ x ∈ natW L, 62 <= x.1 /\ x.1 < n /\ x.2.size = 256 := by
    intro x hx
    obtain ⟨y, hy, rfl⟩ := List.mem_map.1 hx
    obtain ⟨a, b, c⟩ := hw y hy
    rw [hhome] at a
    exact ⟨by simp only; omega, by simp only; omega, c⟩
  have hfitL : Fit n L := fun x hx => by obtain ⟨a, b, c⟩ := hw x hx; rw [hhome] at a; exact ⟨by omega, by omega, c⟩
  have hdat : ∀ x ∈ natW (J.dataW (L.map (·.2))), x.1 < n /\ x.2.size = 256 := by
    intro x hx
    obtain ⟨o, _, _, ho⟩ := dataP_harm hr x hx
    have hm := Nat.mod_lt (J.p + o) (show 0 < J.log by omega)
    refine ⟨by omega, ?_⟩
    rw [dataP] at hx
    obtain ⟨j, hj, rfl⟩ := List.mem_map.1 hx
    have hj' := List.mem_range.1 hj
    rw [List.length_map] at hj'
    by_cases hjl : j < L.length
    . simp [List.getD, List.getElem?_append_left, hjl]
      exact (hw _ (List.getElem_mem hjl)).2.2
    . have : j = L.length := by omega
      subst this
      simp [List.getD, noughts_size]
  have hfit1 : Fit D.disk.length (J.dataW (L.map (·.2))) := by
    intro x hx
    have h1 : (x.1.toNat, x.2) ∈ natW (J.dataW (L.map (·.2))) := List.mem_map.2 ⟨x, hx, rfl⟩
    have h2 := hdat _ h1
    have h3 : 0 <= x.1 := by
      unfold JS.dataW at hx
      rcases List.mem_append.1 hx with hx | hx
      . obtain ⟨i, _, rfl⟩ := List.mem_map.1 hx; simp only; omega
      . simp at hx; subst hx; simp only; omega
    rw [hp.len]
    exact ⟨h3, by have := h2.1; simp only at this; omega, h2.2⟩
  have hlow : ∀ x ∈ D.pend, ∀ b, b < 62 -> x.1 ≠ b := fun x hx b hb => by have := (hp.pend x hx).1; omega
  have hoff : ∀ o, 2 + (J.p + o) % J.log < 62 := fun o => by have := Nat.mod_lt (J.p + o) (show 0 < J.log by omega); omega
  subst hR
  unfold JS.addF
  simp only
  rcases stl_cases D _ hp.live hfit1 with ⟨a1, a2, a3, a4⟩ | ⟨a1, a2, a3, k, hk, a4⟩
  . rw [if_neg (by rw [a1]; simp)]
    have ok1 : (D.stl (J.dataW (L.map (·.2)))).2.Ok := stl_ok hp.dok hfit1
    generalize hD1 : (D.stl (J.dataW (L.map (·.2)))).2 = D1 at *
    have hpp : ∀ x ∈ D.pend ++ natW (J.dataW (L.map (·.2))), x.1 < D.disk.length /\ x.2.size = 256 := by
      intro x hx
      rcases List.mem_append.1 hx with hx | hx
      . exact hp.dok.pends x hx
      . rw [hp.len]; exact hdat x hx
    have len1 : D1.disk.length = n := by rw [a3, laidTo_length]; exact hp.len
    have g1 : ∀ b, b < n -> gd D1.disk b = vN (D.pend ++ natW (J.dataW (L.map (·.2)))) (gd D.disk) b := fun b hb => by
      rw [a3]; exact laid256 b (by rw [hp.len]; exact hb) hp.dok.whole hpp
    have g1d : ∀ j, j <= L.length -> gd D1.disk (J.pos (j + 1)) = (L.map (·.2) ++ [noughts]).getD j ByteArray.empty := fun j hj => by
      have := hg.ok.pos_lt (j + 1)
      rw [g1 _ (by omega)]; exact dataP_at hg.ok hr D.pend _ j hj
    have g1l : ∀ b, b < 62 -> (∀ o, J.full < o -> o < J.log -> b ≠ 2 + (J.p + o) % J.log) -> gd D1.disk b = gd D.disk b := fun b hb hne => by
      rw [g1 b (by omega)]
      exact vN_none (fun x hx => by
        rcases List.mem_append.1 hx with hx | hx
        . exact hlow x hx b hb
        . obtain ⟨o, h1, h2, h3⟩ := dataP_harm hr x hx
          rw [h3]; exact fun e => hne o h1 h2 e.symm)
    have g1o : ∀ o, o <= J.full -> gd D1.disk (2 + (J.p + o) % J.log) = gd D.disk (2 + (J.p + o) % J.log) := fun o ho => g1l _ (hoff o) (fun o' h1 h2 => by
      have := mod_ne J.p J.log o o' (by omega) h2 (by omega); omega)
    have g1s : gd D1.disk J.side = gd D.disk J.side /\ gd D1.disk (1 - J.side) = gd D.disk (1 - J.side) := ⟨g1l _ (by omega) (fun o _ _ => by omega), g1l _ (by omega) (fun o _ _ => by omega)⟩
    have g1h : ∀ b, 62 <= b -> b < n -> gd D1.disk b = H b := fun b hb hbn => by
      rw [g1 b hbn, vN_append, vN_none (P := natW (J.dataW (L.map (·.2)))) (fun x hx => by obtain ⟨o, _, _, h3⟩ := dataP_harm hr x hx; have := hoff o; omega), <- rdB_vN]
      exact hp.read b hb hbn
    have good1 : Good N (gd D1.disk) n J F := hg.change g1s.1 g1s.2 g1o
    have hpz : J.pos 0 = 2 + (J.p + J.full) % J.log := rfl
    have zero1 : gd D1.disk (J.pos 0) = noughts := by rw [hpz, g1o _ (Nat.le_refl _), <- hpz]; exact h.zero
    have view1 : ∀ b, 62 <= b -> b < n -> vN (natW F.flatten) (gd D1.disk) b = H b := fun b hb hbn => by
      by_cases hx : ∃ x ∈ natW F.flatten, x.1 = b
      . rw [vN_hit (g' := gd D.disk) (.inl hx)]; exact hp.view b hb hbn
      . rw [vN_none (fun x hx' e => hx ⟨x, hx', e⟩)]; exact g1h b hb hbn
    have hfit2 : Fit D1.disk.length [(((J.pos 0 : Nat) : Int), bs (topL J.next L))] := by
      intro x hx; simp only [List.mem_singleton] at hx; subst hx; rw [len1]; exact ⟨by simp only; omega, by simp only; omega, htop⟩
    have hnat2 : natW [(((J.pos 0 : Nat) : Int), bs (topL J.next L))] = [(J.pos 0, bs (topL J.next L))] := by simp [natW]
    have whole : ∀ g' : Nat -> ByteArray, g' (J.pos 0) = bs (topL J.next L) -> (∀ b, b ≠ J.pos 0 -> b < n -> g' b = gd D1.disk b) ->
        (Good (N + 1) g' n (J.grow (L.length + 1)) (F ++ [L]) /\ g' ((J.grow (L.length + 1)).pos 0) = noughts) /\ ∀ b, 62 <= b -> b < n -> vN (natW (F ++ [L]).flatten) g' b = put H L b := by
      intro g' ht ho
      have hne : ∀ j, J.full + (j + 1) < J.log -> J.pos (j + 1) ≠ J.pos 0 := fun j hj => pos_ne hg.ok (j + 1) 0 hj (by omega) (by omega)
      have hpl : ∀ j, J.pos j < n := fun j => by have := hg.ok.pos_lt j; omega
      refine ⟨good_grow good1 hN hc hr ?_ (ho _ (by omega) (by omega)) (fun o ho' => ho _ (by rw [hpz]; have := mod_ne J.p J.log o J.full (by omega) (by omega) (by omega); omega) (by have := hoff o; omega)) ht (fun j hj => ?_) ?_, fun b hb hbn => ?_⟩
      . rw [ho _ (by omega) (by omega), g1s.2]; exact h.older
      . rw [ho _ (hne j (by omega)) (hpl _), g1d j (by omega)]
        simp [List.getD, List.getElem?_append_left, hj]
      . rw [ho _ (hne L.length (by omega)) (hpl _), g1d L.length (Nat.le_refl _)]
        simp [List.getD]
      . rw [flat_snoc, vN_append]
        unfold put
        apply vN_hit
        right
        rw [vN_hit (g' := gd D1.disk) (.inr (ho b (by omega) hbn))]
        exact view1 b hb hbn
    rcases stl_cases D1 _ a2 hfit2 with ⟨b1, b2, b3, b4⟩ | ⟨b1, b2, b3, k, hk, b4⟩
    . right
      rw [if_neg (by rw [b1]; simp)]
      have ok2 : (D1.stl [(((J.pos 0 : Nat) : Int), bs (topL J.next L))]).2.Ok := stl_ok ok1 hfit2
      generalize hD2 : (D1.stl [(((J.pos 0 : Nat) : Int), bs (topL J.next L))]).2 = D2 at *
      rw [hnat2, a4, List.nil_append] at b3
      have hpp2 : ∀ x ∈ [(J.pos 0, bs (topL J.next L))], x.1 < D1.disk.length /\ x.2.size = 256 := by
        intro x hx; simp at hx; subst hx; exact ⟨by rw [len1]; simp only; omega, htop⟩
      have len2 : D2.disk.length = n := by rw [b3, laidTo_length]; exact len1
      have g2 : ∀ b, b < n -> gd D2.disk b = vN [(J.pos 0, bs (topL J.next L))] (gd D1.disk) b := fun b hb => by
        rw [b3]; exact laid256 b (by rw [len1]; exact hb) ok1.whole hpp2
      have g2s : gd D2.disk (J.pos 0) = bs (topL J.next L) := by rw [g2 _ (by omega)]; exact vN_at (P := []) (Q := []) (x := (J.pos 0, bs (topL J.next L))) (fun y hy => by cases hy)
      have g2o : ∀ b, b ≠ J.pos 0 -> b < n -> gd D2.disk b = gd D1.disk b := fun b hne hb => by
        rw [g2 b hb]; exact vN_none (fun x hx => by simp at hx; subst hx; exact fun e => hne e.symm)
      obtain ⟨⟨q1, q2⟩, q3⟩ := whole (gd D2.disk) g2s g2o
      refine ⟨rfl, by rw [List.length_map], ?_⟩
      obtain ⟨k, hk⟩ := wrs_cases L D2 b2 (by rw [len2]; exact hfitL)
      have ok3 := wrs_ok L D2 ok2
      have hpn : (D2.wrs L).2.pend = natW (L.take k) := by rw [hk.pend, b4, List.nil_append]
      have hin : ∀ x ∈ natW L, ∃ y ∈ natW (F ++ [L]).flatten, y.1 = x.1 := fun x hx => ⟨x, by rw [flat_snoc]; exact List.mem_append_right _ hx, rfl⟩
      have hsub : ∀ x ∈ (D2.wrs L).2.pend, 62 <= x.1 /\ ∃ y ∈ natW (F ++ [L]).flatten, y.1 = x.1 := by
        intro x hx
        rw [hpn] at hx
        have hx' : x ∈ natW L := by
          obtain ⟨y, hy, rfl⟩ := List.mem_map.1 hx
          exact List.mem_map.2 ⟨y, List.mem_of_mem_take hy, rfl⟩
        exact ⟨(hnl x hx').1, hin x hx'⟩
      rcases hk.how with ⟨c1, c2, c3⟩ | ⟨c1, c2⟩
      . left
        refine ⟨c1, ⟨⟨ok3, c3, by rw [hk.disk]; exact len2, by rw [hk.disk]; exact q1, hsub, by rw [hk.disk]; exact q3, fun b hb hbn => ?_⟩, by rw [hk.disk]; exact q2, by rw [hk.disk]; show Older (gd D2.disk (1 - J.side)) J.e; rw [g2o _ (by omega) (by omega), g1s.2]; exact h.older⟩⟩
        rw [rdB_vN, hpn, c2, List.take_length, hk.disk]
        unfold put
        apply vN_hit
        right
        rw [g2o b (by omega) hbn]; exact g1h b hb hbn
      . right
        refine ⟨c1, c2, ok3, by rw [hk.disk]; exact len2, fun f hf => ⟨put H L, _, _, .inr rfl, harm_rec hf ok3 (by rw [hk.disk]; exact len2) (by rw [hk.disk]; exact q1) (by rw [hk.disk]; exact q3) (fun x hx => .inl (hsub x hx))⟩⟩
    . left
      rw [if_pos (by rw [b1]; simp)]
      have ok2 : (D1.stl [(((J.pos 0 : Nat) : Int), bs (topL J.next L))]).2.Ok := stl_ok ok1 hfit2
      refine ⟨b1, b2, ok2, by rw [b3]; exact len1, fun f hf => ?_⟩
      have hsz := (ok2.settled f (fun k _ => hf k)).whole
      simp only at hsz
      rw [b3, b4, a4, List.nil_append] at hsz ⊢
      rcases list_take_one _ k hk with e | e
      . rw [e] at hsz ⊢
        exact ⟨H, J, F, .inl rfl, ⟨len1, ok1.whole, good1.more (by omega) hN, view1⟩⟩
      . rw [e, hnat2] at hsz ⊢
        have g2s := laid_one (f := f) (P := []) (disk := D1.disk) (J.pos 0) (bs (topL J.next L)) (fun y hy => by cases hy) (by omega)
        have g2o : ∀ b, b ≠ J.pos 0 -> gd (laidTo f ([] ++ [(J.pos 0, bs (topL J.next L))]) D1.disk ([] ++ [(J.pos 0, bs (topL J.next L))]).length) b = gd D1.disk b := fun b hne => laid_other b _ (fun x hx => by simp at hx; subst hx; exact fun e => hne e.symm)
        rw [List.nil_append] at g2s g2o
        have len2 : (laidTo f [(J.pos 0, bs (topL J.next L))] D1.disk [(J.pos 0, bs (topL J.next L))].length).length = n := by rw [laidTo_length]; exact len1
        generalize laidTo f [(J.pos 0, bs (topL J.next L))] D1.disk [(J.pos 0, bs (topL J.next L))].length = d2 at *
        rw [zero1] at g2s
        by_cases hT : f ([] : List (Nat × ByteArray)).length = 256
        . rw [hT, layB_all _ _ htop noughts_size] at g2s
          obtain ⟨⟨q1, _⟩, q3⟩ := whole (gd d2) g2s (fun b hne _ => g2o b hne)
          exact ⟨put H L, _, _, .inr rfl, ⟨len2, hsz, q1, q3⟩⟩
        . have hlt : f ([] : List (Nat × ByteArray)).length < 256 := by have := hf ([] : List (Nat × ByteArray)).length; omega
          have hc2 : Good N (gd d2) n J F := good1.swap (g2o _ (by omega)) (g2o _ (by omega)) (fun o ho => g2o _ (by rw [hpz]; have := mod_ne J.p J.log o J.full (by omega) (by omega) (by omega); omega)) (by rw [g2s]; exact torn_head _ _ htop hlt)
          refine ⟨H, J, F, .inl rfl, ⟨len2, hsz, hc2.more (by omega) hN, fun b hb hbn => ?_⟩⟩
          rw [vN_hit (g' := gd D1.disk) (.inr (g2o b (by omega)))]; exact view1 b hb hbn
  . left
    rw [if_pos (by rw [a1]; simp)]
    have ok1 : (D.stl (J.dataW (L.map (·.2)))).2.Ok := stl_ok hp.dok hfit1
    refine ⟨a1, a2, ok1, by rw [a3]; exact hp.len, fun f hf => ⟨H, J, F, .inl rfl, Rec.more (harm_rec hf ok1 (by rw [a3]; exact hp.len) (by rw [a3]; exact hg) (by rw [a3]; exact hp.view) ?_) (by omega) hN⟩⟩
    intro x hx
    rw [a4] at hx
    rcases List.mem_append.1 hx with hx | hx
    . exact .inl (hp.pend x hx)
    . have hx' : x ∈ natW (J.dataW (L.map (·.2))) := by
        obtain ⟨y, hy, rfl⟩ := List.mem_map.1 hx
        exact List.mem_map.2 ⟨y, List.mem_of_mem_take hy, rfl⟩
      exact .inr (dataP_harm hr x hx')
end
end Go.Proofs.YthambopnmhkeeaaGreat

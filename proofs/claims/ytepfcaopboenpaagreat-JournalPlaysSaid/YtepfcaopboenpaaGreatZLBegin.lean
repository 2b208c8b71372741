/- What begin answers: a device with a journal; the world of the statements. -/
import Derived.Test.YtepfcaopboenpaaGreatZJSafe3
import Derived.Test.YtepfcaopboenpaaGreatZLHelp
import Derived.Test.YtepfcaopboenpaaGreatZJSlot
import Derived.Test.YtepfcaopboenpaaGreatZFBase
import Derived.Test.YtepfcaopboenpaaGreatZTextB
import Derived.IntWalk
import Derived.Deep.DeepCutAuto
import Derived.Deep.RegionHeld3

namespace Go.Proofs.YtepfcaopboenpaaGreat
open Go.RowKit
open Fr (SlW)

/-- The device and the journal that begin makes. -/
def Db (n : Nat) : DevS := ((DevS.made n).fmt 50).2.opn.2.1
def Jb : JS := J0.next'
theorem begin_sync (n : Nat) (h1 : 53 ≤ n) (h2 : n ≤ 4096) : ((DevS.made n).fmt 50).2.opn = (0, Db n, some Jb) ∧ Sync 2 n Jb (Db n) (fun _ => noughts) [] ∧ (Db n).pend = [] ∧ (Db n).fused = false := by
  obtain ⟨a1, a2, a3, a4, a5, a6⟩ := fmt_rec n h1 h2
  obtain ⟨b1, b2, b3, b4⟩ := open_sure a6 (by omega) a5 a3 a2 a4
  refine ⟨Prod.ext b1 (Prod.ext rfl b2), b3, b4, (nf_opn a4).1⟩

section
variable {w0 w w' : World} {wb a p : Nat} {J J' : JS} {D D' : DevS}
/-- The statements' world: block wb holds the device p and the journal a; what was there in w0 is as it was. -/
structure Wd (w0 w : World) (wb a p : Nat) (S : Nat → Prop) (J : JS) (D : DevS) : Prop where
  own : ∀ k, S k → w0.heap.size ≤ k
  dev : Stands S w p D
  jr : Jr 79 w a p J
  wh : w.heap[wb]? = some (.cells #[.pointer (some ⟨p, 0, none⟩), .pointer (some ⟨a, 0, none⟩)] 52 (0, 0))
  na : ¬ S a
  nw : ¬ S wb
  aw : a ≠ wb
  la : w0.heap.size ≤ a
  lw : w0.heap.size ≤ wb
  bel : Below w0.heap.size w0 w
theorem Wd.below {S : Nat → Prop} (h : Wd w0 w wb a p S J D) (hb : Below w.heap.size w w') : Wd w0 w' wb a p S J D :=
  ⟨h.own, h.dev.below hb, h.jr.below hb, by rw [hb.block wb (Array.getElem?_eq_some_iff.1 h.wh).1]; exact h.wh, h.na, h.nw, h.aw, h.la, h.lw, h.bel.trans (hb.mono h.bel.size)⟩
theorem Wd.lt {S : Nat → Prop} (h : Wd w0 w wb a p S J D) : wb < w.heap.size := (Array.getElem?_eq_some_iff.1 h.wh).1
theorem Wd.c0 {S : Nat → Prop} (h : Wd w0 w wb a p S J D) : w.cell? ⟨wb, 0, none⟩ = some (.pointer (some ⟨p, 0, none⟩)) := by rw [cell_at h.wh]; rfl
theorem Wd.c1 {S : Nat → Prop} (h : Wd w0 w wb a p S J D) : w.cell? ⟨wb, 1, none⟩ = some (.pointer (some ⟨a, 0, none⟩)) := by rw [cell_at h.wh]; rfl
/-- Behind a call on the journal. -/
theorem Wd.jleaves {S : Nat → Prop} (h : Wd w0 w wb a p S J D) (hl : JLeaves 79 S w w' a p D' J') : ∃ S', Wd w0 w' wb a p S' J' D' := by
  obtain ⟨S', hS', hs, hj, ho⟩ := hl
  have hla := h.jr.lt
  have hlw := h.lt
  have hsz := h.bel.size
  refine ⟨S', fun k hk => ?_, hs, hj, ?_, fun hk => ?_, fun hk => ?_, h.aw, h.la, h.lw, ?_⟩
  · rcases hS' k hk with h1 | h1
    · exact h.own k h1
    · omega
  · rw [ho.block wb hlw (fun hk => by rcases hk with hk | hk; exact h.nw hk; exact h.aw hk.symm)]; exact h.wh
  · rcases hS' a hk with h1 | h1
    · exact h.na h1
    · omega
  · rcases hS' wb hk with h1 | h1
    · exact h.nw h1
    · omega
  · exact h.bel.trans (ho.below hsz (fun k _ hk => by rcases hk with hk | hk; exact h.own k hk; rw [hk]; exact h.la))
/-- Behind a call on the device. -/
theorem Wd.leaves {S : Nat → Prop} (h : Wd w0 w wb a p S J D) (hl : Leaves S w w' p D') : ∃ S', Wd w0 w' wb a p S' J D' := h.jleaves (JLeaves.of hl h.jr h.na)

/-- New, Format and Open, one behind the other, with devices that bear no numbers. -/
theorem begin_pack (n : Nat) (h1 : 53 ≤ n) (h2 : n ≤ 4096) : ∃ Z DF : DevS, Z.pend.length ≤ 600000 ∧
    (∀ w, Calls Tryz.prog 24 #[.int .i64 (n : Int)] w fun e w' => ∃ p, e = .returned (.tuple #[.pointer (some ⟨p, 0, none⟩), .int .i64 0]) ∧ Fresh w w' p Z) ∧
    (∀ (S : Nat → Prop) W p, Stands S W p Z → Calls Tryz.prog 25 #[.pointer (some ⟨p, 0, none⟩), .int .i64 50] W fun e w' => e = .returned (.int .i64 0) ∧ Leaves S W w' p DF) ∧
    (∀ (S : Nat → Prop) W p, Stands S W p DF → Calls Tryz.prog 26 #[.pointer (some ⟨p, 0, none⟩)] W fun e w' => ∃ S' a, (∀ k, S' k → S k ∨ W.heap.size ≤ k) ∧ Stands S' w' p (Db n) ∧ Only S W w' ∧ e = .returned (.tuple #[.pointer (some ⟨a, 0, none⟩), .int .i64 0]) ∧ W.heap.size ≤ a ∧ ¬ S' a ∧ Jr 79 w' a p Jb) ∧
    (∀ (S : Nat → Prop) W p, Stands S W p Z → Calls Tryz.prog 26 #[.pointer (some ⟨p, 0, none⟩)] W fun e w' => e = .returned (.tuple #[.pointer none, .int .i64 10]) ∧ Only S W w') ∧
    (∀ (S : Nat → Prop) W p (l : Int), (n : Int) - 3 < l → Stands S W p Z → Calls Tryz.prog 25 #[.pointer (some ⟨p, 0, none⟩), .int .i64 l] W fun e w' => e = .returned (.int .i64 2) ∧ Leaves S W w' p Z) := by
  obtain ⟨f1, f2, f3, f4, f5, f6⟩ := fmt_rec n h1 h2
  obtain ⟨s1, _, _, _⟩ := begin_sync n h1 h2
  have hp0 : (DevS.made n).pend = [] := rfl
  have hde : (DevS.made n).dead = false := rfl
  have hln : (DevS.made n).disk.length = n := by simp [DevS.made]
  have hfind : (DevS.made n).find = none := by
    have hz : ∀ i, (DevS.made n).slotAt i = none := by
      intro i
      unfold DevS.slotAt
      split
      · rename_i hi
        have hr : (DevS.made n).rdB i = noughts := by
          rw [rdB_none i (by rw [hp0]; intro x hx; cases hx)]
          unfold gd DevS.made
          rw [hln] at hi
          simp [List.getD, hi]
        rw [hr]
        cases hx : rdSlot noughts (DevS.made n).disk.length with
        | none => rfl
        | some x =>
          have := rdSlot_bytes hx
          have h0 := congrArg (fun b : ByteArray => b.data.toList.getD 0 0) this
          simp only [noughts_at] at h0
          have h67 : (slotB x.1 x.2.1 x.2.2.1 x.2.2.2).data.toList.getD 0 0 = 67 := rfl
          rw [h67] at h0
          cases h0
      · rfl
    unfold DevS.find
    rw [hz 0, hz 1]
  have hopn : (DevS.made n).opn = (10, DevS.made n, none) := by
    unfold DevS.opn; rw [hde, hfind]; rfl
  refine ⟨DevS.made n, ((DevS.made n).fmt 50).2, by rw [hp0]; simp, fun w => new_yes n w (by omega) h2, fun S W p h => ?_, fun S W p h => ?_, fun S W p h => ?_, fun S W p l hl h => ?_⟩
  · have := format_any (w := W) 50 h (by rw [hp0]; simp)
    rw [f1] at this
    exact this
  · refine (open_any (w := W) h (by rw [f2]; simp)).mono fun e w' hO => ?_
    unfold Opened at hO
    rw [s1] at hO
    obtain ⟨S', h1, h2, h3, a, h4, h5, h6, h7⟩ := hO
    exact ⟨S', a, h1, h2, h3, h4, h5, h6, h7⟩
  · refine (open_any (w := W) h (by rw [hp0]; simp)).mono fun e w' hO => ?_
    unfold Opened at hO
    rw [hopn] at hO
    obtain ⟨S', h1, h2, h3, h4⟩ := hO
    exact ⟨h4, h3⟩
  · have e : (DevS.made n).fmt l = (2, DevS.made n) := by unfold DevS.fmt; rw [hln, if_pos (.inr hl)]
    have := format_any (w := W) l h (by rw [hp0]; simp)
    rw [e] at this
    exact this

set_option maxRecDepth 100000 in
set_option maxHeartbeats 1000000 in
theorem begin_any (w : World) : Calls Tryz.prog 6 #[] w fun e w' => ∃ wb a p S, e = .returned (.tuple #[.pointer (some ⟨wb, 0, none⟩), .bool true]) ∧ Wd w w' wb a p S Jb (Db 70) := by
  obtain ⟨Z, DF, _, cn, cf, co, _, _⟩ := begin_pack 70 (by omega) (by omega)
  have CN := Lib.hid (cn w); have CF := Lib.hid cf; have CO := Lib.hid co
  clear cn cf co
  generalize Db 70 = DB at *
  generalize Jb = JB at *
  go_enter Tryz.func6, Tryz.ntmps6
  go_wp2_with fail
  refine CN.out.mono ?_
  rintro e w1 ⟨p, rfl, hf⟩
  obtain ⟨S1, hS1, hs1, hb1⟩ := hf
  have CF1 := Lib.hid (CF.out S1 w1 p hs1)
  have HS1 := Lib.hid hS1; have HB1 := Lib.hid hb1; have HSt1 := Lib.hid hs1
  clear hS1 hb1 hs1 CF CN
  go_wp2_with fail
  refine CF1.out.mono ?_
  rintro e w2 ⟨rfl, hv2⟩
  obtain ⟨S2, hS2, hs2, ho2⟩ := hv2
  have CO2 := Lib.hid (CO.out S2 w2 p hs2)
  have HS2 : Hid (∀ k, S2 k → w.heap.size ≤ k) := fun k hk => by rcases hS2 k hk with h | h; exact HS1.out k h; have := HB1.out.size; omega
  have HB2 : Hid (Below w.heap.size w w2) := HB1.out.trans (ho2.below HB1.out.size (fun k _ hk => HS1.out k hk))
  clear hS2 hs2 ho2 CO CF1 HS1 HSt1 HB1
  go_wp2_with fail
  refine CO2.out.mono ?_
  rintro e w3 ⟨S3, a, hS3, hs3, ho3, rfl, ha3, hna3, hj3⟩
  have hz2 := HB2.out.size
  have HS3 : Hid (∀ k, S3 k → w.heap.size ≤ k) := fun k hk => by rcases hS3 k hk with h | h; exact HS2.out k h; omega
  have HB3 : Hid (Below w.heap.size w w3) := HB2.out.trans (ho3.below hz2 (fun k _ hk => HS2.out k hk))
  have HD3 := Lib.hid hs3; have HNA := Lib.hid hna3; have HJ3 := Lib.hid hj3
  clear hS3 hs3 ho3 hna3 hj3 CO2 HS2 HB2
  go_wp2
  go_ret2
  have hb4 : Below w3.heap.size w3 (w3.alloc (.cells #[.pointer (some ⟨p, 0, none⟩), .pointer (some ⟨a, 0, none⟩)] 52)) := (Below.refl _ _).alloc (Nat.le_refl _) _
  have hz3 := HB3.out.size
  have hla := HJ3.out.lt
  refine ⟨w3.heap.size, a, p, S3, rfl, ⟨HS3.out, HD3.out.below hb4, HJ3.out.below hb4, heap_alloc_new .., HNA.out, fun h => by have := HD3.out.lt _ h; omega, by omega, by omega, hz3, HB3.out.trans (hb4.mono hz3)⟩⟩
end
end Go.Proofs.YtepfcaopboenpaaGreat
/- The document's own journal: what Text, long, read, place and Home answer: the same. -/
namespace Go.Proofs.YtepfcaopboenpaaGreat
open Go.RowKit
open Fr (bs fixL nmAt fix_name fixed_to rfixed_to bs_append bs_len rtoFixed_at or64 nmAt_lt bs_data str_len bs_ext)

set_option maxRecDepth 100000 in
set_option maxHeartbeats 2000000 in
theorem vtext_any (e s log p : Nat) (w : World) (he : e < 18446744073709551616) (hs : s < 18446744073709551616) (hl : log ≤ 4096) (hp : p ≤ 4096) :
    Calls Tryz.prog 32 #[.agg #[.int .u64 (e : Int), .int .u64 (s : Int), .int .i64 (log : Int), .int .i64 (p : Int)]] w fun r w' => r = .returned (.string (slotB e s log p)) ∧ Below w.heap.size w w' := by
  obtain ⟨i0, hi, hz0, hz1, hz2⟩ := info_parts Tryz.infoB
  have HZ2 := Lib.hid hz2; clear hz2
  obtain ⟨FT, hFT⟩ : ∃ f : Int → ByteArray, f = fun v => bs (fixL v.toNat) := ⟨_, rfl⟩
  have CF : Hid (∀ (x : Int) (W : World), 0 ≤ x → x < 4294967296 → Calls Tryz.prog 62 #[.int .u32 x] W fun r w' => r = .returned (.string (FT x)) ∧ Below W.heap.size W w') := fun x W h0 h1 => rfixed_to x x.toNat _ W (by omega) (by omega) (by rw [hFT]; rfl)
  obtain ⟨w0, hw0⟩ : ∃ w0, w.alloc (.cells #[.int .u64 (e : Int), .int .u64 (s : Int), .int .i64 (log : Int), .int .i64 (p : Int)] 55) = w0 := ⟨_, rfl⟩
  have hb0 : w0.heap[w.heap.size]? = some (.cells #[.int .u64 (e : Int), .int .u64 (s : Int), .int .i64 (log : Int), .int .i64 (p : Int)] 55 (0, 0)) := by rw [← hw0, heap_alloc_new]
  have HB0 : Hid (Below w.heap.size w w0) := by rw [← hw0]; exact (Below.refl _ _).alloc (Nat.le_refl _) _
  have c0 : w0.cell? ⟨w.heap.size, 0, none⟩ = some (.int .u64 (e : Int)) := by rw [cell_at hb0]; rfl
  have c1 : w0.cell? ⟨w.heap.size, 1, none⟩ = some (.int .u64 (s : Int)) := by rw [cell_at hb0]; rfl
  have c2 : w0.cell? ⟨w.heap.size, 2, none⟩ = some (.int .i64 (log : Int)) := by rw [cell_at hb0]; rfl
  have c3 : w0.cell? ⟨w.heap.size, 3, none⟩ = some (.int .i64 (p : Int)) := by rw [cell_at hb0]; rfl
  have hlt : w.heap.size < w0.heap.size := (Array.getElem?_eq_some_iff.1 hb0).1
  clear hb0
  have HW0 := Lib.hid hw0; clear hw0
  obtain ⟨e0, he0⟩ : ∃ x : Nat, e % 4294967296 = x := ⟨_, rfl⟩
  obtain ⟨s0, hs0⟩ : ∃ x : Nat, s % 4294967296 = x := ⟨_, rfl⟩
  obtain ⟨e1, he1⟩ : ∃ x : Nat, e / 4294967296 = x := ⟨_, rfl⟩
  obtain ⟨s1, hs1⟩ : ∃ x : Nat, s / 4294967296 = x := ⟨_, rfl⟩
  have l0 : e0 < 4294967296 := by omega
  have l1 : s0 < 4294967296 := by omega
  have l2 : e1 < 4294967296 := by omega
  have l3 : s1 < 4294967296 := by omega
  have t0 : (e : Int).tmod 4294967296 = (e0 : Int) := by rw [Int.tmod_eq_emod_of_nonneg (by omega)]; omega
  have t1 : (s : Int).tmod 4294967296 = (s0 : Int) := by rw [Int.tmod_eq_emod_of_nonneg (by omega)]; omega
  have t2 : (e : Int) / 4294967296 = (e1 : Int) := by omega
  have t3 : (s : Int) / 4294967296 = (s1 : Int) := by omega
  have u0 : IntKind.u32.wrap (e0 : Int) = (e0 : Int) := u32_in _ (by omega)
  have u1 : IntKind.u32.wrap (s0 : Int) = (s0 : Int) := u32_in _ (by omega)
  have u2 : IntKind.u32.wrap (e1 : Int) = (e1 : Int) := u32_in _ (by omega)
  have u3 : IntKind.u32.wrap (s1 : Int) = (s1 : Int) := u32_in _ (by omega)
  have u4 : IntKind.u32.wrap (log : Int) = (log : Int) := u32_in _ (by omega)
  have u5 : IntKind.u32.wrap (p : Int) = (p : Int) := u32_in _ (by omega)
  have z0 : (FT (e0 : Int)).size ≤ 4 := by rw [hFT]; exact Nat.le_refl _
  have z1 : (FT (e1 : Int)).size ≤ 4 := by rw [hFT]; exact Nat.le_refl _
  have z2 : (FT (s0 : Int)).size ≤ 4 := by rw [hFT]; exact Nat.le_refl _
  have z3 : (FT (s1 : Int)).size ≤ 4 := by rw [hFT]; exact Nat.le_refl _
  have z4 : (FT (log : Int)).size ≤ 4 := by rw [hFT]; exact Nat.le_refl _
  have z5 : (FT (p : Int)).size ≤ 4 := by rw [hFT]; exact Nat.le_refl _
  have b1 : ¬ 9223372036854775807 < 4 + (FT (e0 : Int)).size := by omega
  have b2 : ¬ 9223372036854775807 < 4 + (FT (e0 : Int)).size + (FT (e1 : Int)).size := by omega
  have b3 : ¬ 9223372036854775807 < 4 + (FT (e0 : Int)).size + (FT (e1 : Int)).size + (FT (s0 : Int)).size := by omega
  have b4 : ¬ 9223372036854775807 < 4 + (FT (e0 : Int)).size + (FT (e1 : Int)).size + (FT (s0 : Int)).size + (FT (s1 : Int)).size := by omega
  have b5 : ¬ 9223372036854775807 < 4 + (FT (e0 : Int)).size + (FT (e1 : Int)).size + (FT (s0 : Int)).size + (FT (s1 : Int)).size + (FT (log : Int)).size := by omega
  have b6 : ¬ 9223372036854775807 < 4 + (FT (e0 : Int)).size + (FT (e1 : Int)).size + (FT (s0 : Int)).size + (FT (s1 : Int)).size + (FT (log : Int)).size + (FT (p : Int)).size := by omega
  obtain ⟨X, hX⟩ : ∃ X, ⟨#[67, 68, 88, 83]⟩ ++ FT (e0 : Int) ++ FT (e1 : Int) ++ FT (s0 : Int) ++ FT (s1 : Int) ++ FT (log : Int) ++ FT (p : Int) = X := ⟨_, rfl⟩
  have hXe : X = bs ([67, 68, 88, 83] ++ wideL e ++ wideL s ++ fixL log ++ fixL p) := by
    rw [← hX, hFT]
    show ((((((bs [67, 68, 88, 83] ++ bs (fixL e0)) ++ bs (fixL e1)) ++ bs (fixL s0)) ++ bs (fixL s1)) ++ bs (fixL log)) ++ bs (fixL p)) = _
    unfold wideL
    rw [he0, he1, hs0, hs1, bs_append, bs_append, bs_append, bs_append, bs_append, bs_append]
    simp only [List.append_assoc]
  have zX : X.size = 28 := by rw [hXe, bs_len]; rfl
  obtain ⟨Z, hZ⟩ : ∃ Z, bs (List.replicate 100 0) = Z := ⟨_, rfl⟩
  have zZ : Z.size ≤ 100 := by rw [← hZ, bs_len, List.length_replicate]; exact Nat.le_refl _
  have HF : Hid ((X ++ Z) ++ (X ++ Z) = slotB e s log p) := by
    show _ = _
    unfold slotB
    rw [half_parts, hXe, ← hZ, bs_append, bs_append]
  have HFT := Lib.hid hFT
  have x0 : X.size ≤ 28 := by omega
  have x1 : 28 ≤ X.size := by omega
  clear hXe zX hFT
  have HZ := Lib.hid hZ
  have HX := Lib.hid hX
  clear hZ hX
  have HE := Lib.hid (And.intro (And.intro he0 he1) (And.intro hs0 hs1))
  clear he0 he1 hs0 hs1
  go_enter Tryz.func32, Tryz.ntmps32
  go_wp2_with fail
  rw [HW0.out]
  go_region_held3 (fun W => Below w0.heap.size w0 W ∧ W.cell? ⟨w.heap.size, 0, none⟩ = some (.int .u64 (e : Int)) ∧ W.cell? ⟨w.heap.size, 1, none⟩ = some (.int .u64 (s : Int)) ∧ W.cell? ⟨w.heap.size, 2, none⟩ = some (.int .i64 (log : Int)) ∧ W.cell? ⟨w.heap.size, 3, none⟩ = some (.int .i64 (p : Int)))
    (first | exact ⟨(Below.refl _ _).drew, c0, c1, c2, c3⟩ | exact held_four hlt (by assumption) (by assumption) | exact held_four hlt (by assumption) (Below.refl _ _))
    (first
      | (go_at_call 62; refine (CF.out _ _ ?_ ?_).mono ?_; omega; omega; rintro r w' ⟨rfl, hbx⟩)
      | (go_at_call 62; trace_state; fail))
  rw [HX.out]
  rename_i hHeld
  have HB1 : Hid (Below w.heap.size w w') := HB0.out.trans (hHeld.1.mono (Nat.le_of_lt hlt))
  clear hHeld hbx b1 b2 b3 b4 b5 b6 t0 t1 t2 t3 u0 u1 u2 u3 u4 u5 c0 c1 c2 c3 z0 z1 z2 z3 z4 z5
  have hmT : 128 - (X.size : Int) = ((100 : Nat) : Int) := by omega
  have HMT := Lib.hid hmT; clear hmT
  go_wp2_with (at_make; refine wpList_make_full _ rfl _ _ 92 rfl w'.heap.size 5 i0 (.int .u8 0) 1 Tryz.underlying92 hi hz0 hz1 _ _ _ _ 100 rfl rfl HMT.out HMT.out (by rw [HZ2.out]; omega) (by unfold maxLen; omega) (Nat.le_refl _) ?_)
  intro w1 hown hgrow
  rw [toList_madeCells_one] at hown
  have hconv := Fr.zero_text hown
  have HB2 : Hid (Below w.heap.size w w1) := HB1.out.grown hgrow HB1.out.size (fun k h => by cases h)
  clear hown hgrow HB1
  rw [HZ.out] at hconv
  go_wp2
  go_ret
  exact ⟨by rw [← HF.out]; rfl, HB2.out⟩

theorem ext_drop (l : List UInt8) (k m : Nat) (T : ByteArray) (h : T = bs (l.drop k)) : T.extract m T.size = bs (l.drop (k + m)) := by
  have e : T.data.toList = l.drop k := by rw [h]; simp [bs]
  rw [Fr.ext_eq T (l.drop k) e, List.drop_drop]

set_option maxRecDepth 100000 in
set_option maxHeartbeats 1000000 in
theorem rtoFixed_quiet (s : ByteArray) (w : World) (h4 : 4 ≤ s.size) (hs : s.size ≤ maxLen) :
    Calls Tryz.prog 63 #[.string s] w fun e w' => e = .returned (.tuple #[.int .u32 ((Fr.unfix s[0] s[1] s[2] s[3] : Nat) : Int), .string (s.extract 4 s.size), .bool true]) ∧ w' = w.drew := by
  unfold maxLen at hs
  have i0 : 0 < s.size := by omega
  have i1 : 1 < s.size := by omega
  have i2 : 2 < s.size := by omega
  have i3 : 3 < s.size := by omega
  have j1 : (1 : Int) < (s.size : Int) := by omega
  have j2 : (2 : Int) < (s.size : Int) := by omega
  have j3 : (3 : Int) < (s.size : Int) := by omega
  have j4 : (4 : Int) ≤ (s.size : Int) := by omega
  go_enter Tryz.func63, Tryz.ntmps63
  go_wp2
  go_region
  go_wp2
  go_ret3
  exact ⟨Fr.tup3 _ _ _ (Fr.sum4 s[0] s[1] s[2] s[3]), rfl⟩
theorem rtoFixed_qat {T R : ByteArray} {q : List UInt8} {k : Nat} (w : World) (hT : T = bs (q.drop k)) (hR : R = bs (q.drop (k + 4))) (h4 : k + 4 ≤ q.length) (hs : q.length ≤ 10000) :
    Calls Tryz.prog 63 #[.string T] w fun e w' => e = .returned (.tuple #[.int .u32 ((nmAt q k : Nat) : Int), .string R, .bool true]) ∧ w' = w.drew := by
  have zT : T.size = q.length - k := by rw [hT, bs_len, List.length_drop]
  refine (rtoFixed_quiet T w (by omega) (by unfold maxLen; omega)).mono fun e w' ⟨he, hb⟩ => ⟨?_, hb⟩
  have e0 (j : Nat) (hj : j < T.size) : T[j]'hj = q.getD (k + j) 0 := by
    subst hT
    have h1 : k + j < q.length := by omega
    have h2 : (bs (q.drop k))[j]'hj = (q.drop k)[j]'(by rw [List.length_drop]; omega) := rfl
    rw [h2, List.getElem_drop]
    simp [List.getD, h1]
  rw [he, e0 0 (by omega), e0 1 (by omega), e0 2 (by omega), e0 3 (by omega), ext_drop q k 4 T hT, ← hR]
  rfl

set_option maxRecDepth 100000 in
set_option maxHeartbeats 1000000 in
theorem vlong_any (l : List UInt8) (k : Nat) (T : ByteArray) (w : World) (hl : k + 8 ≤ l.length) (hm : l.length ≤ 1000) (h1 : T = bs (l.drop k)) :
    Calls Tryz.prog 64 #[.string T] w fun e w' => e = .returned (.int .u64 ((wideAt l k : Nat) : Int)) ∧ w' = w.drew.drew := by
  obtain ⟨T3, HT3⟩ : ∃ T3, Hid (T3 = bs (l.drop (k + 4))) := ⟨_, rfl⟩
  obtain ⟨T4, HT4⟩ : ∃ T4, Hid (T4 = bs (l.drop (k + 4 + 4))) := ⟨_, rfl⟩
  have F1 := Lib.hid (fun W => rtoFixed_qat W h1 HT3.out (by omega) (by omega))
  have F2 := Lib.hid (fun W => rtoFixed_qat W HT3.out HT4.out (by omega) (by omega))
  have hex : T.extract 4 T.size = T3 := by rw [HT3.out]; exact ext_drop l k 4 T h1
  have zT : T.size = l.length - k := by rw [h1, bs_len, List.length_drop]
  have z1 : (4 : Int) ≤ (T.size : Int) := by omega
  have x1 := nmAt_lt l k
  have x2 := nmAt_lt l (k + 4)
  have HW : Hid ((nmAt l (k + 4) : Int) * 4294967296 + (nmAt l k : Int) = ((wideAt l k : Nat) : Int)) := by show _ = _; unfold wideAt; omega
  clear h1 zT
  generalize wideAt l k = wd at *
  generalize nmAt l k = lo at *
  generalize nmAt l (k + 4) = hi at *
  go_enter Tryz.func64, Tryz.ntmps64
  go_wp2_with fail
  refine (F1.out _).mono ?_
  rintro e w2 ⟨rfl, rfl⟩
  go_wp2_with fail
  refine (F2.out _).mono ?_
  rintro e w3 ⟨rfl, rfl⟩
  go_wp2
  go_ret
  exact ⟨by rw [← HW.out]; rfl, rfl⟩

theorem keep_alloc {w W : World} (h : Below w.heap.size w W) (o : Obj) : Below w.heap.size w (W.alloc o) := h.alloc h.size o
theorem keep_call {w W W' : World} (h : Below w.heap.size w W) (hb : Below W.heap.size W W') : Below w.heap.size w W' := h.trans (hb.mono h.size)
theorem wide_drop (l : List UInt8) (k : Nat) : wideAt (l.drop k) 0 = wideAt l k := by
  unfold wideAt
  rw [Fr.nmAt_drop, Fr.nmAt_drop]
  rfl

theorem results_vslot (tmps : Array Value) (g : Nat) (Y : World) (b : Bool) (x0 x1 x2 x3 : Int) (h4 : tmps.getD 4 undef = .pointer (some ⟨g, 0, none⟩)) (h5 : tmps.getD 5 undef = .bool b)
    (hY : Y.heap[g]? = some (.cells #[.int .u64 x0, .int .u64 x1, .int .i64 x2, .int .i64 x3] 55 (0, 0))) :
    (results Tryz.f35 tmps).run Tryz.prog Y = .ok (.tuple #[.agg #[.int .u64 x0, .int .u64 x1, .int .i64 x2, .int .i64 x3], .bool b]) Y := by
  have y0 : Y.cell? ⟨g, 0, none⟩ = some (.int .u64 x0) := by rw [cell_at hY]; rfl
  have y1 : Y.cell? ⟨g, 1, none⟩ = some (.int .u64 x1) := by rw [cell_at hY]; rfl
  have y2 : Y.cell? ⟨g, 2, none⟩ = some (.int .i64 x2) := by rw [cell_at hY]; rfl
  have y3 : Y.cell? ⟨g, 3, none⟩ = some (.int .i64 x3) := by rw [cell_at hY]; rfl
  rw [Array.getD_eq_getD_getElem?] at h4 h5
  simp [results, Tryz.results35, go_sem, h4, h5, y0, y1, y2, y3]

/-- What read answers: the slot, or any one and false. -/
def VRead (w : World) (x : Option (Nat × Nat × Nat × Nat)) (e : Ending) (w' : World) : Prop :=
  ∃ x0 x1 x2 x3 : Int, ∃ b : Bool, e = .returned (.tuple #[.agg #[.int .u64 x0, .int .u64 x1, .int .i64 x2, .int .i64 x3], .bool b]) ∧ Below w.heap.size w w' ∧
    ((x = none ∧ b = false) ∨ (∃ y, x = some y ∧ b = true ∧ x0 = (y.1 : Int) ∧ x1 = (y.2.1 : Int) ∧ x2 = (y.2.2.1 : Int) ∧ x3 = (y.2.2.2 : Int)))

set_option maxRecDepth 100000 in
set_option maxHeartbeats 2000000 in
theorem vread_any (t : ByteArray) (n : Nat) (w : World) (ht : t.size = 256) (hn : n ≤ 4096) :
    Calls Tryz.prog 35 #[.string t, .int .i64 (n : Int)] w fun e w' => VRead w (rdSlot t n) e w' := by
  obtain ⟨l, hl⟩ : ∃ l, t.data.toList = l := ⟨_, rfl⟩
  have hll : l.length = 256 := by rw [← hl, str_len, ht]
  have HI := Lib.hid (rdSlot_iff t n)
  rw [hl] at HI
  obtain ⟨T4, h4⟩ : ∃ T, t.extract 4 t.size = T := ⟨_, rfl⟩
  obtain ⟨T12, h12⟩ : ∃ T, t.extract 12 t.size = T := ⟨_, rfl⟩
  obtain ⟨T20, h20⟩ : ∃ T, t.extract 20 t.size = T := ⟨_, rfl⟩
  obtain ⟨T24, h24⟩ : ∃ T, t.extract 24 t.size = T := ⟨_, rfl⟩
  have e4 : T4 = bs (l.drop 4) := by rw [← h4, Fr.ext_eq t l hl]
  have e12 : T12 = bs (l.drop 12) := by rw [← h12, Fr.ext_eq t l hl]
  have e20 : T20 = bs (l.drop 20) := by rw [← h20, Fr.ext_eq t l hl]
  have e24 : T24 = bs (l.drop 24) := by rw [← h24, Fr.ext_eq t l hl]
  obtain ⟨T28, e28⟩ : ∃ T, T = bs (l.drop 28) := ⟨_, rfl⟩
  have F3 := Lib.hid (fun W => rtoFixed_at (k := 20) W e20 e24 (by omega) (by omega))
  have F4 := Lib.hid (fun W => rtoFixed_at (k := 24) W e24 e28 (by omega) (by omega))
  obtain ⟨LG, g4, g12, CL⟩ : ∃ LG : ByteArray → Int, LG T4 = ((wideAt l 4 : Nat) : Int) ∧ LG T12 = ((wideAt l 12 : Nat) : Int) ∧ Hid (∀ (T : ByteArray) (W : World), T = T4 ∨ T = T12 → Calls Tryz.prog 64 #[.string T] W fun r w' => r = .returned (.int .u64 (LG T)) ∧ w' = W.drew.drew) := by
    refine ⟨fun T => ((wideAt (T.data.toList) 0 : Nat) : Int), ?_, ?_, ?_⟩
    · show ((wideAt T4.data.toList 0 : Nat) : Int) = _
      rw [show T4.data.toList = l.drop 4 by rw [e4]; simp [bs], wide_drop]
    · show ((wideAt T12.data.toList 0 : Nat) : Int) = _
      rw [show T12.data.toList = l.drop 12 by rw [e12]; simp [bs], wide_drop]
    · rintro T W (rfl | rfl)
      · exact vlong_any T.data.toList 0 T W (by rw [e4]; simp [bs]; omega) (by rw [e4]; simp [bs]; omega) (by rw [List.drop_zero, bs_data])
      · exact vlong_any T.data.toList 0 T W (by rw [e12]; simp [bs]; omega) (by rw [e12]; simp [bs]; omega) (by rw [List.drop_zero, bs_data])
  have x4 := wideAt_lt l 4; have x12 := wideAt_lt l 12; have x20 := nmAt_lt l 20; have x24 := nmAt_lt l 24
  clear e4 e12 e20 e24 e28 hl hll
  generalize wideAt l 4 = e at *
  generalize wideAt l 12 = s at *
  generalize nmAt l 20 = log at *
  generalize nmAt l 24 = p at *
  have i20 : (20 : Int) ≤ (t.size : Int) := by omega
  have i24 : (24 : Int) ≤ (t.size : Int) := by omega
  have i4 : (4 : Int) ≤ (t.size : Int) := by omega
  have i12 : (12 : Int) ≤ (t.size : Int) := by omega
  have CT := Lib.hid (fun W (h : log ≤ 4096) (h2 : p ≤ 4096) => vtext_any e s log p W x4 x12 h h2)
  clear ht
  have HG4 := Lib.hid g4; have HG12 := Lib.hid g12
  obtain ⟨A0, hA0⟩ : ∃ A0, w.alloc (.cells #[.int .u64 0, .int .u64 0, .int .i64 0, .int .i64 0] 55) = A0 := ⟨_, rfl⟩
  have hr0 : A0.heap[w.heap.size]? = some (.cells #[.int .u64 0, .int .u64 0, .int .i64 0, .int .i64 0] 55 (0, 0)) := by rw [← hA0, heap_alloc_new]
  have HB0 : Hid (Below w.heap.size w A0) := by rw [← hA0]; exact (Below.refl _ _).alloc (Nat.le_refl _) _
  have hz0 : w.heap.size < A0.heap.size := (Array.getElem?_eq_some_iff.1 hr0).1
  have HR0 := Lib.hid hr0; clear hr0
  have HA0 := Lib.hid hA0; clear hA0
  have fin : Hid (∀ (X5 : World) (x0 x1 x2 x3 : Int) (b : Bool) (tmps : Array Value), Below A0.heap.size A0 X5 → tmps.getD 4 undef = .pointer (some ⟨w.heap.size, 0, none⟩) → tmps.getD 5 undef = .bool b →
      (rdSlot t n = none ∧ b = false) ∨ (rdSlot t n = some (e, s, log, p) ∧ x0 = (e : Int) ∧ x1 = (s : Int) ∧ x2 = (log : Int) ∧ x3 = (p : Int) ∧ b = true) →
      bodyPost Tryz.prog Tryz.f35 (fun r w' => VRead w (rdSlot t n) r w') .ret ⟨tmps, []⟩ ((((X5.setCell ⟨w.heap.size, 0, none⟩ (.int .u64 x0)).setCell ⟨w.heap.size, 1, none⟩ (.int .u64 x1)).setCell ⟨w.heap.size, 2, none⟩ (.int .i64 x2)).setCell ⟨w.heap.size, 3, none⟩ (.int .i64 x3))) := by
    intro X5 x0 x1 x2 x3 b tmps h5 ht4 ht5 hc
    have h0 := (h5.block _ hz0).trans HR0.out
    have h4 := heap_setCell_at (i := 3) (heap_setCell_at (i := 2) (heap_setCell_at (i := 1) (heap_setCell_at (i := 0) h0 (.int .u64 x0)) (.int .u64 x1)) (.int .i64 x2)) (.int .i64 x3)
    have hbw := HB0.out.trans (h5.mono (Nat.le_of_lt hz0))
    refine bodyPost_ret (results_vslot tmps w.heap.size _ b x0 x1 x2 x3 ht4 ht5 h4) rfl ⟨x0, x1, x2, x3, b, rfl, (((hbw.setCell (Nat.le_refl _) _).setCell (Nat.le_refl _) _).setCell (Nat.le_refl _) _).setCell (Nat.le_refl _) _, ?_⟩
    rcases hc with ⟨hr, rfl⟩ | ⟨hr, rfl, rfl, rfl, rfl, rfl⟩
    · exact .inl ⟨hr, rfl⟩
    · exact .inr ⟨_, hr, rfl, rfl, rfl, rfl, rfl⟩
  have HFr : Hid (∀ W, Below A0.heap.size A0 W → W.cell? ⟨w.heap.size, 0, none⟩ = some (.int .u64 0) ∧ W.cell? ⟨w.heap.size, 1, none⟩ = some (.int .u64 0) ∧ W.cell? ⟨w.heap.size, 2, none⟩ = some (.int .i64 0) ∧ W.cell? ⟨w.heap.size, 3, none⟩ = some (.int .i64 0) ∧ W.frozen? ⟨w.heap.size, 0, none⟩ = false ∧ W.frozen? ⟨w.heap.size, 1, none⟩ = false ∧ W.frozen? ⟨w.heap.size, 2, none⟩ = false ∧ W.frozen? ⟨w.heap.size, 3, none⟩ = false) := fun W hW => by
    have h0 := (hW.block _ hz0).trans HR0.out
    exact ⟨by rw [cell_at h0]; rfl, by rw [cell_at h0]; rfl, by rw [cell_at h0]; rfl, by rw [cell_at h0]; rfl, free_at h0 0, free_at h0 1, free_at h0 2, free_at h0 3⟩
  go_enter Tryz.func35, Tryz.ntmps35
  go_wp2_with fail
  rw [HA0.out]
  refine (F3.out _).mono ?_
  rintro r w1 ⟨rfl, hb1⟩
  have HB1 := Lib.hid hb1; clear hb1
  go_wp2_with fail
  refine (F4.out _).mono ?_
  rintro r w2 ⟨rfl, hb2⟩
  have HB2 := Lib.hid (HB1.out.trans (hb2.mono HB1.out.size)); clear hb2 HB1
  obtain ⟨r0, r1, r2, r3, q0, q1, q2, q3⟩ := HFr.out _ HB2.out
  by_cases hf : 50 ≤ log ∧ log ≤ 4096 ∧ log + 3 ≤ n ∧ p < log
  · obtain ⟨f1, f2, f3, f4⟩ := hf
    have d1 : ¬ (log : Int) < 50 := by omega
    have d2 : ¬ (4096 : Int) < (log : Int) := by omega
    have d3 : ¬ (n : Int) - 3 < (log : Int) := by omega
    have d4 : ¬ (log : Int) ≤ (p : Int) := by omega
    have CT2 := Lib.hid (fun W => CT.out W (by omega) (by omega))
    have v1 : IntKind.i64.wrap (log : Int) = (log : Int) := IntWalk.i64_in _ (by omega)
    have v2 : IntKind.i64.wrap (p : Int) = (p : Int) := IntWalk.i64_in _ (by omega)
    have hzz : w.heap.size < w2.heap.size := Nat.lt_of_lt_of_le hz0 HB2.out.size
    have hne1 : w2.heap.size ≠ w.heap.size := by omega
    have hne2 : w.heap.size ≠ w2.heap.size := by omega
    go_upto_region 5 with fail
    go_cut [12] (fun s12 wx => ∃ g : Nat, s12 = .pointer (some ⟨g, 0, none⟩) ∧ Hid (Below w2.heap.size w2 wx ∧ wx.heap[g]? = some (.cells #[.int .u64 (e : Int), .int .u64 (s : Int), .int .i64 (log : Int), .int .i64 (p : Int)] 55 (0, 0))))
    case first =>
      go_region_held3 (fun W => W.cell? ⟨w.heap.size, 0, none⟩ = some (.int .u64 0))
        (first | exact r0 | go_keep)
        (first | (go_at_call 64; refine (CL.out _ _ ?_).mono ?_; (first | exact .inl rfl | exact .inr rfl); rintro r w' ⟨rfl, rfl⟩))
      all_goals
        go_wp2_with fail
        go_meet
        exact ⟨_, rfl, ⟨((((((Below.refl _ _).alloc (Nat.le_refl _) _).drew).drew).drew).drew).drew, heap_alloc_new ..⟩⟩
    case rest =>
      obtain ⟨g, rfl, hg⟩ := hcut
      obtain ⟨hg1, hg2⟩ := hg.out
      clear hg r0 r1 r2 r3 q0 q1 q2 q3
      have HBc : Hid (Below A0.heap.size A0 wc) := keep_call HB2.out hg1
      have hgl : g < wc.heap.size := (Array.getElem?_eq_some_iff.1 hg2).1
      have HKg : Hid (∀ W, Below wc.heap.size wc W → W.cell? ⟨g, 0, none⟩ = some (.int .u64 (e : Int)) ∧ W.cell? ⟨g, 1, none⟩ = some (.int .u64 (s : Int)) ∧ W.cell? ⟨g, 2, none⟩ = some (.int .i64 (log : Int)) ∧ W.cell? ⟨g, 3, none⟩ = some (.int .i64 (p : Int))) := fun W hW => by
        have h0 := (hW.block g hgl).trans hg2
        exact ⟨by rw [cell_at h0]; rfl, by rw [cell_at h0]; rfl, by rw [cell_at h0]; rfl, by rw [cell_at h0]; rfl⟩
      have hgw : g ≠ w.heap.size := fun e => by
        have h0 := HFr.out _ HBc.out
        have h1 : wc.heap[w.heap.size]? = some (.cells #[.int .u64 0, .int .u64 0, .int .i64 0, .int .i64 0] 55 (0, 0)) := (HBc.out.block _ hz0).trans HR0.out
        rw [e, h1] at hg2
        simp only [Option.some.injEq, Obj.cells.injEq] at hg2
        have h2 := congrArg (fun x : Array Value => x[2]?) hg2.1
        simp at h2
        omega
      have hgw2 : w.heap.size ≠ g := fun e => hgw e.symm
      obtain ⟨k0, k1, k2, k3⟩ := HKg.out _ (Below.refl _ _)
      clear hg1 hg2
      by_cases hte : t = slotB e s log p
      · have HR : Hid (rdSlot t n = some (e, s, log, p)) := (HI.out _).2 ⟨⟨by omega, by omega, by omega, hte⟩, rfl⟩
        have hcmp : ((slotB e s log p).toList == t.toList) = true := by rw [Fr.str_same hte.symm]
        generalize slotB e s log p = tt at *
        clear hte HI CT
        go_wp2_with fail
        go_region_held3 (fun W => W.cell? ⟨g, 0, none⟩ = some (.int .u64 (e : Int)) ∧ W.cell? ⟨g, 1, none⟩ = some (.int .u64 (s : Int)) ∧ W.cell? ⟨g, 2, none⟩ = some (.int .i64 (log : Int)) ∧ W.cell? ⟨g, 3, none⟩ = some (.int .i64 (p : Int)))
          (first | exact ⟨k0, k1, k2, k3⟩ | assumption | go_keep)
          (first | (go_at_call 32; refine (CT2.out _).mono ?_; rintro r w6 ⟨rfl, hb6'⟩; have hb6 : Below wc.heap.size wc w6 := Fr.below_predrew hb6'; have hh6 := HKg.out _ hb6; obtain ⟨r0, r1, r2, r3, q0, q1, q2, q3⟩ := HFr.out _ (keep_call HBc.out hb6)))
        go_wp2
        exact fin.out _ _ _ _ _ _ _ (keep_call HBc.out hb6) rfl rfl (.inr ⟨HR.out, rfl, rfl, rfl, rfl, rfl⟩)
      · have HR : Hid (rdSlot t n = none) := by
          cases h : rdSlot t n with
          | none => rfl
          | some x => exact absurd ((HI.out _).1 h).1.2.2.2 hte
        have hcmp : ((slotB e s log p).toList == t.toList) = false := by rw [Fr.str_diff (fun h => hte h.symm)]
        generalize slotB e s log p = tt at *
        clear hte HI CT
        go_wp2_with fail
        go_region_held3 (fun W => W.cell? ⟨g, 0, none⟩ = some (.int .u64 (e : Int)) ∧ W.cell? ⟨g, 1, none⟩ = some (.int .u64 (s : Int)) ∧ W.cell? ⟨g, 2, none⟩ = some (.int .i64 (log : Int)) ∧ W.cell? ⟨g, 3, none⟩ = some (.int .i64 (p : Int)))
          (first | exact ⟨k0, k1, k2, k3⟩ | assumption | go_keep)
          (first | (go_at_call 32; refine (CT2.out _).mono ?_; rintro r w6 ⟨rfl, hb6'⟩; have hb6 : Below wc.heap.size wc w6 := Fr.below_predrew hb6'; have hh6 := HKg.out _ hb6; obtain ⟨r0, r1, r2, r3, q0, q1, q2, q3⟩ := HFr.out _ (keep_call HBc.out hb6)))
        go_wp2
        exact fin.out _ _ _ _ _ _ _ (keep_call HBc.out hb6) rfl rfl (.inl ⟨HR.out, rfl⟩)
  · have HR : Hid (rdSlot t n = none) := by
      cases h : rdSlot t n with
      | none => rfl
      | some x =>
        have h1 := ((HI.out _).1 h).1
        exact absurd ⟨h1.1, by omega, h1.2.1, h1.2.2.1⟩ hf
    have HFin : Hid (∀ (tmps : Array Value), tmps.getD 4 undef = .pointer (some ⟨w.heap.size, 0, none⟩) → tmps.getD 5 undef = .bool false → bodyPost Tryz.prog Tryz.f35 (fun r w' => VRead w (rdSlot t n) r w') .ret ⟨tmps, []⟩ ((((w2.setCell ⟨w.heap.size, 0, none⟩ (.int .u64 0)).setCell ⟨w.heap.size, 1, none⟩ (.int .u64 0)).setCell ⟨w.heap.size, 2, none⟩ (.int .i64 0)).setCell ⟨w.heap.size, 3, none⟩ (.int .i64 0))) :=
      fun tmps h1 h2 => fin.out w2 0 0 0 0 false tmps HB2.out h1 h2 (.inl ⟨HR.out, rfl⟩)
    clear HI CT CL
    by_cases a1 : log < 50
    · have d1 : (log : Int) < 50 := by omega
      go_wp2
      exact HFin.out _ rfl rfl
    · have d1 : ¬ (log : Int) < 50 := by omega
      by_cases a2 : 4096 < log
      · have d2 : (4096 : Int) < (log : Int) := by omega
        go_wp2
        exact HFin.out _ rfl rfl
      · have d2 : ¬ (4096 : Int) < (log : Int) := by omega
        by_cases a3 : n < log + 3
        · have d3 : (n : Int) - 3 < (log : Int) := by omega
          go_wp2
          exact HFin.out _ rfl rfl
        · have d3 : ¬ (n : Int) - 3 < (log : Int) := by omega
          have d4 : (log : Int) ≤ (p : Int) := by omega
          go_wp2
          exact HFin.out _ rfl rfl
end Go.Proofs.YtepfcaopboenpaaGreat

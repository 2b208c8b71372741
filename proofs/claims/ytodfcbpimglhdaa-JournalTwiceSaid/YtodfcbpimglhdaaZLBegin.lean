/- What begin answers: a device with a journal; the world of the statements. -/
import Derived.Test.YtodfcbpimglhdaaZJSafe3
import Derived.Test.YtodfcbpimglhdaaZLHelp

namespace Go.Proofs.Ytodfcbpimglhdaa
open Go.RowKit
open Fr (SlW)

/-- The device and the journal that begin makes. -/
def Db (n : Nat) : DevS := ((DevS.made n).fmt 50).2.opn.2.1
def Jb : JS := J0.next'
theorem begin_sync (n : Nat) (h1 : 53 ≤ n) (h2 : n ≤ 4096) : ((DevS.made n).fmt 50).2.opn = (0, Db n, some Jb) ∧ Sync 2 n Jb (Db n) (fun _ => noughts) [] ∧ (Db n).pend = [] ∧ (Db n).fused = false := by
  obtain ⟨a1, a2, a3, a4, a5, a6⟩ := fmt_rec n h1 h2
  obtain ⟨b1, b2, b3, b4⟩ := open_sure a6 (by omega) a5 a3 a2 a4
  refine ⟨Prod.ext b1 (Prod.ext rfl b2), b3, b4, (nf_opn a4).1⟩

section
variable {w0 w w' : World} {wb a p : Nat} {J J' : JS} {D D' : DevS}
/-- The statements' world: block wb holds the device p and the journal a; what was there in w0 is as it was. -/
structure Wd (w0 w : World) (wb a p : Nat) (S : Nat → Prop) (J : JS) (D : DevS) : Prop where
  own : ∀ k, S k → w0.heap.size ≤ k
  dev : Stands S w p D
  jr : Jr 85 w a p J
  wh : w.heap[wb]? = some (.cells #[.pointer (some ⟨p, 0, none⟩), .pointer (some ⟨a, 0, none⟩)] 65 (0, 0))
  na : ¬ S a
  nw : ¬ S wb
  aw : a ≠ wb
  la : w0.heap.size ≤ a
  lw : w0.heap.size ≤ wb
  bel : Below w0.heap.size w0 w
theorem Wd.below {S : Nat → Prop} (h : Wd w0 w wb a p S J D) (hb : Below w.heap.size w w') : Wd w0 w' wb a p S J D :=
  ⟨h.own, h.dev.below hb, h.jr.below hb, by rw [hb.block wb (Array.getElem?_eq_some_iff.1 h.wh).1]; exact h.wh, h.na, h.nw, h.aw, h.la, h.lw, h.bel.trans (hb.mono h.bel.size)⟩
theorem Wd.lt {S : Nat → Prop} (h : Wd w0 w wb a p S J D) : wb < w.heap.size := (Array.getElem?_eq_some_iff.1 h.wh).1
theorem Wd.c0 {S : Nat → Prop} (h : Wd w0 w wb a p S J D) : w.cell? ⟨wb, 0, none⟩ = some (.pointer (some ⟨p, 0, none⟩)) := by rw [cell_at h.wh]; rfl
theorem Wd.c1 {S : Nat → Prop} (h : Wd w0 w wb a p S J D) : w.cell? ⟨wb, 1, none⟩ = some (.pointer (some ⟨a, 0, none⟩)) := by rw [cell_at h.wh]; rfl
/-- Behind a call on the journal. -/
theorem Wd.jleaves {S : Nat → Prop} (h : Wd w0 w wb a p S J D) (hl : JLeaves 85 S w w' a p D' J') : ∃ S', Wd w0 w' wb a p S' J' D' := by
  obtain ⟨S', hS', hs, hj, ho⟩ := hl
  have hla := h.jr.lt
  have hlw := h.lt
  have hsz := h.bel.size
  refine ⟨S', fun k hk => ?_, hs, hj, ?_, fun hk => ?_, fun hk => ?_, h.aw, h.la, h.lw, ?_⟩
  · rcases hS' k hk with h1 | h1
    · exact h.own k h1
    · omega
  · rw [ho.block wb hlw (fun hk => by rcases hk with hk | hk; exact h.nw hk; exact h.aw hk.symm)]; exact h.wh
  · rcases hS' a hk with h1 | h1
    · exact h.na h1
    · omega
  · rcases hS' wb hk with h1 | h1
    · exact h.nw h1
    · omega
  · exact h.bel.trans (ho.below hsz (fun k _ hk => by rcases hk with hk | hk; exact h.own k hk; rw [hk]; exact h.la))
/-- Behind a call on the device. -/
theorem Wd.leaves {S : Nat → Prop} (h : Wd w0 w wb a p S J D) (hl : Leaves S w w' p D') : ∃ S', Wd w0 w' wb a p S' J D' := h.jleaves (JLeaves.of hl h.jr h.na)

/-- New, Format and Open, one behind the other, with devices that bear no numbers. -/
theorem begin_pack (n : Nat) (h1 : 53 ≤ n) (h2 : n ≤ 4096) : ∃ Z DF : DevS, Z.pend.length ≤ 600000 ∧
    (∀ w, Calls Try.prog 11 #[.int .i64 (n : Int)] w fun e w' => ∃ p, e = .returned (.tuple #[.pointer (some ⟨p, 0, none⟩), .int .i64 0]) ∧ Fresh w w' p Z) ∧
    (∀ (S : Nat → Prop) W p, Stands S W p Z → Calls Try.prog 23 #[.pointer (some ⟨p, 0, none⟩), .int .i64 50] W fun e w' => e = .returned (.int .i64 0) ∧ Leaves S W w' p DF) ∧
    (∀ (S : Nat → Prop) W p, Stands S W p DF → Calls Try.prog 16 #[.pointer (some ⟨p, 0, none⟩)] W fun e w' => ∃ S' a, (∀ k, S' k → S k ∨ W.heap.size ≤ k) ∧ Stands S' w' p (Db n) ∧ Only S W w' ∧ e = .returned (.tuple #[.pointer (some ⟨a, 0, none⟩), .int .i64 0]) ∧ W.heap.size ≤ a ∧ ¬ S' a ∧ Jr 85 w' a p Jb) ∧
    (∀ (S : Nat → Prop) W p, Stands S W p Z → Calls Try.prog 16 #[.pointer (some ⟨p, 0, none⟩)] W fun e w' => e = .returned (.tuple #[.pointer none, .int .i64 10]) ∧ Only S W w') ∧
    (∀ (S : Nat → Prop) W p (l : Int), (n : Int) - 3 < l → Stands S W p Z → Calls Try.prog 23 #[.pointer (some ⟨p, 0, none⟩), .int .i64 l] W fun e w' => e = .returned (.int .i64 2) ∧ Leaves S W w' p Z) := by
  obtain ⟨f1, f2, f3, f4, f5, f6⟩ := fmt_rec n h1 h2
  obtain ⟨s1, _, _, _⟩ := begin_sync n h1 h2
  have hp0 : (DevS.made n).pend = [] := rfl
  have hde : (DevS.made n).dead = false := rfl
  have hln : (DevS.made n).disk.length = n := by simp [DevS.made]
  have hfind : (DevS.made n).find = none := by
    have hz : ∀ i, (DevS.made n).slotAt i = none := by
      intro i
      unfold DevS.slotAt
      split
      · rename_i hi
        have hr : (DevS.made n).rdB i = noughts := by
          rw [rdB_none i (by rw [hp0]; intro x hx; cases hx)]
          unfold gd DevS.made
          rw [hln] at hi
          simp [List.getD, hi]
        rw [hr]
        cases hx : rdSlot noughts (DevS.made n).disk.length with
        | none => rfl
        | some x =>
          have := rdSlot_bytes hx
          have h0 := congrArg (fun b : ByteArray => b.data.toList.getD 0 0) this
          simp only [noughts_at] at h0
          have h67 : (slotB x.1 x.2.1 x.2.2.1 x.2.2.2).data.toList.getD 0 0 = 67 := rfl
          rw [h67] at h0
          cases h0
      · rfl
    unfold DevS.find
    rw [hz 0, hz 1]
  have hopn : (DevS.made n).opn = (10, DevS.made n, none) := by
    unfold DevS.opn; rw [hde, hfind]; rfl
  refine ⟨DevS.made n, ((DevS.made n).fmt 50).2, by rw [hp0]; simp, fun w => new_yes n w (by omega) h2, fun S W p h => ?_, fun S W p h => ?_, fun S W p h => ?_, fun S W p l hl h => ?_⟩
  · have := format_any (w := W) 50 h (by rw [hp0]; simp)
    rw [f1] at this
    exact this
  · refine (open_any (w := W) h (by rw [f2]; simp)).mono fun e w' hO => ?_
    unfold Opened at hO
    rw [s1] at hO
    obtain ⟨S', h1, h2, h3, a, h4, h5, h6, h7⟩ := hO
    exact ⟨S', a, h1, h2, h3, h4, h5, h6, h7⟩
  · refine (open_any (w := W) h (by rw [hp0]; simp)).mono fun e w' hO => ?_
    unfold Opened at hO
    rw [hopn] at hO
    obtain ⟨S', h1, h2, h3, h4⟩ := hO
    exact ⟨h4, h3⟩
  · have e : (DevS.made n).fmt l = (2, DevS.made n) := by unfold DevS.fmt; rw [hln, if_pos (.inr hl)]
    have := format_any (w := W) l h (by rw [hp0]; simp)
    rw [e] at this
    exact this

set_option maxRecDepth 100000 in
set_option maxHeartbeats 1000000 in
theorem begin_any (w : World) : Calls Try.prog 26 #[] w fun e w' => ∃ wb a p S, e = .returned (.tuple #[.pointer (some ⟨wb, 0, none⟩), .bool true]) ∧ Wd w w' wb a p S Jb (Db 70) := by
  obtain ⟨Z, DF, _, cn, cf, co, _, _⟩ := begin_pack 70 (by omega) (by omega)
  have CN := Lib.hid (cn w); have CF := Lib.hid cf; have CO := Lib.hid co
  clear cn cf co
  generalize Db 70 = DB at *
  generalize Jb = JB at *
  go_enter Try.func26, Try.ntmps26
  go_wp2_with fail
  refine CN.out.mono ?_
  rintro e w1 ⟨p, rfl, hf⟩
  obtain ⟨S1, hS1, hs1, hb1⟩ := hf
  have CF1 := Lib.hid (CF.out S1 w1 p hs1)
  have HS1 := Lib.hid hS1; have HB1 := Lib.hid hb1; have HSt1 := Lib.hid hs1
  clear hS1 hb1 hs1 CF CN
  go_wp2_with fail
  refine CF1.out.mono ?_
  rintro e w2 ⟨rfl, hv2⟩
  obtain ⟨S2, hS2, hs2, ho2⟩ := hv2
  have CO2 := Lib.hid (CO.out S2 w2 p hs2)
  have HS2 : Hid (∀ k, S2 k → w.heap.size ≤ k) := fun k hk => by rcases hS2 k hk with h | h; exact HS1.out k h; have := HB1.out.size; omega
  have HB2 : Hid (Below w.heap.size w w2) := HB1.out.trans (ho2.below HB1.out.size (fun k _ hk => HS1.out k hk))
  clear hS2 hs2 ho2 CO CF1 HS1 HSt1 HB1
  go_wp2_with fail
  refine CO2.out.mono ?_
  rintro e w3 ⟨S3, a, hS3, hs3, ho3, rfl, ha3, hna3, hj3⟩
  have hz2 := HB2.out.size
  have HS3 : Hid (∀ k, S3 k → w.heap.size ≤ k) := fun k hk => by rcases hS3 k hk with h | h; exact HS2.out k h; omega
  have HB3 : Hid (Below w.heap.size w w3) := HB2.out.trans (ho3.below hz2 (fun k _ hk => HS2.out k hk))
  have HD3 := Lib.hid hs3; have HNA := Lib.hid hna3; have HJ3 := Lib.hid hj3
  clear hS3 hs3 ho3 hna3 hj3 CO2 HS2 HB2
  go_wp2
  go_ret2
  have hb4 : Below w3.heap.size w3 (w3.alloc (.cells #[.pointer (some ⟨p, 0, none⟩), .pointer (some ⟨a, 0, none⟩)] 65)) := (Below.refl _ _).alloc (Nat.le_refl _) _
  have hz3 := HB3.out.size
  have hla := HJ3.out.lt
  refine ⟨w3.heap.size, a, p, S3, rfl, ⟨HS3.out, HD3.out.below hb4, HJ3.out.below hb4, heap_alloc_new .., HNA.out, fun h => by have := HD3.out.lt _ h; omega, by omega, by omega, hz3, HB3.out.trans (hb4.mono hz3)⟩⟩
end
end Go.Proofs.Ytodfcbpimglhdaa

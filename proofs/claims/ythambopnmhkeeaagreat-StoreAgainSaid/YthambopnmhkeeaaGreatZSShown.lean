/- The chapter's examples of a store: shown answers true. -/
import Derived.Test.YthambopnmhkeeaaGreatZSForm
import Derived.Test.YthambopnmhkeeaaGreatZCDirty

set_option maxRecDepth 100000
namespace Go.Proofs.YthambopnmhkeeaaGreat
open Go.RowKit
def Sw (w W : World) (s p : Nat) (P : TS) (N mi : Nat) : Prop := ∃ S : Nat -> Prop, (∀ k, S k -> w.heap.size <= k) /\ St S W s p P N mi /\ Below w.heap.size w W
section
variable {w W w' : World} {s p N N' mi mi' : Nat} {P P' : TS} {f : FuncId} {args : Array Value} {r : Value}
theorem Sw.bel (h : Sw w W s p P N mi) : Below w.heap.size w W := by obtain ⟨S, _, _, h⟩ := h; exact h
theorem Sw.leaves {S : Nat -> Prop} (h1 : ∀ k, S k -> w.heap.size <= k) (h3 : Below w.heap.size w W) (hl : StL S W w' s p P' N' mi') : Sw w w' s p P' N' mi' := by
 obtain ⟨S', i1, i2, i3⟩ := hl
 refine ⟨S', fun k hk => ?_, i2, h3.trans (i3.below h3.size (fun k _ hk => h1 k hk))⟩
 rcases i1 k hk with a | a
 ·exact h1 k a
 ·have := h3.size; omega
theorem Sw.below (h : Sw w W s p P N mi) (hb : Below W.heap.size W w') : Sw w w' s p P N mi := by
 obtain ⟨S, h1, h2, h3⟩ := h
 exact ⟨S, h1, h2.below hb, h3.trans (hb.mono h3.size)⟩
theorem Sw.call (h : Sw w W s p P N mi) (hc : ∀ S, St S W s p P N mi -> Calls Tryz.prog f args W fun e w' => e = .returned r /\ Hid (StL S W w' s p P' N' mi')) :
  Calls Tryz.prog f args W fun e w' => e = .returned r /\ Hid (Sw w w' s p P' N' mi') := by
 obtain ⟨S, h1, h2, h3⟩ := h
 exact (hc S h2).mono fun e w' ⟨he, hl⟩ => ⟨he, Sw.leaves h1 h3 hl.out⟩
theorem Sw.alloc (h : Sw w W s p P N mi) (k : Int) (hk : -9223372036854775808 <= k /\ k <= 9223372036854775807) {a e : Int} (hP : P.alloc k = ((a, e), P')) :
  Calls Tryz.prog 39 #[.pointer (some ⟨s, 0, none⟩), .int .i64 k] W fun x w' => x = .returned (.tuple #[.int .i64 a, .int .i64 e]) /\ Hid (Sw w w' s p P' N mi) :=
 h.call fun S m => by have := salloc_any m k hk; rw [hP] at this; exact this
theorem Sw.begin_ (h : Sw w W s p P N mi) {e : Int} (hP : P.begin_ = (e, P')) :
  Calls Tryz.prog 38 #[.pointer (some ⟨s, 0, none⟩)] W fun x w' => x = .returned (.int .i64 e) /\ Hid (Sw w w' s p P' N mi) :=
 h.call fun S m => by have := sbegin_any m; rw [hP] at this; exact this
theorem Sw.write (h : Sw w W s p P N mi) (i : Int) (hi : -9223372036854775808 <= i /\ i <= 9223372036854775807) (d : ByteArray) (hd : d.size <= maxLen) {e : Int} (hP : P.write i d = (e, P')) :
  Calls Tryz.prog 42 #[.pointer (some ⟨s, 0, none⟩), .int .i64 i, .string d] W fun x w' => x = .returned (.int .i64 e) /\ Hid (Sw w w' s p P' N mi) :=
 h.call fun S m => by have := swrite_any m i hi d hd; rw [hP] at this; exact this
theorem Sw.release (h : Sw w W s p P N mi) (i k : Int) (hi : -9223372036854775808 <= i /\ i <= 9223372036854775807) (hk : -9223372036854775808 <= k /\ k <= 9223372036854775807) {e : Int} (hP : P.release i k = (e, P')) :
  Calls Tryz.prog 40 #[.pointer (some ⟨s, 0, none⟩), .int .i64 i, .int .i64 k] W fun x w' => x = .returned (.int .i64 e) /\ Hid (Sw w w' s p P' N mi) :=
 h.call fun S m => by have := srelease_any m i k hi hk; rw [hP] at this; exact this
theorem Sw.abort (h : Sw w W s p P N mi) (hP : P.undo = P') :
  Calls Tryz.prog 37 #[.pointer (some ⟨s, 0, none⟩)] W fun x w' => x = .returned (.tuple #[]) /\ Hid (Sw w w' s p P' N mi) :=
 h.call fun S m => by have := sabort_any m; rw [hP] at this; exact this
theorem Sw.read (h : Sw w W s p P N mi) (i : Int) (hi : -9223372036854775808 <= i /\ i <= 9223372036854775807) (hm : mi < 1000000) {t : ByteArray} {e : Int} (hP : P.read i = (t, e)) :
  Calls Tryz.prog 41 #[.pointer (some ⟨s, 0, none⟩), .int .i64 i] W fun x w' => x = .returned (.tuple #[.string t, .int .i64 e]) /\ Hid (Sw w w' s p P N (mi + 1)) :=
 h.call fun S m => by have := sread_any m i hi hm; rw [hP] at this; exact this
theorem Sw.commit (h : Sw w W s p P N mi) (hN : N + 2 <= 10000) {e : Int} (hP : P.commit = (e, P')) :
  Calls Tryz.prog 44 #[.pointer (some ⟨s, 0, none⟩)] W fun x w' => x = .returned (.int .i64 e) /\ ∃ N', N' <= N + 2 /\ Hid (Sw w w' s p P' N' mi) := by
 obtain ⟨S, h1, h2, h3⟩ := h
 have := scommit_any h2 hN
 rw [hP] at this
 exact this.mono fun e w' ⟨he, N', hN', hl⟩ => ⟨he, N', hN', Sw.leaves h1 h3 hl.out⟩
theorem Sw.first (h : Sw w W s p P N mi) : Calls Tryz.prog 32 #[.pointer (some ⟨s, 0, none⟩)] W fun e w' => e = .returned (.int .i64 (firstD P.n : Nat)) /\ W = w' := by
 obtain ⟨S, _, ⟨SH, SC, h, c, C, a, _⟩, _⟩ := h
 exact sfirst_any a
theorem Sw.free (h : Sw w W s p P N mi) : Calls Tryz.prog 17 #[.pointer (some ⟨s, 0, none⟩)] W fun e w' => e = .returned (.int .i64 (Bm.fr P.bits P.n : Nat)) /\ Hid (Sw w w' s p P N mi) := by
 have h0 := h
 obtain ⟨S, _, m, _⟩ := h
 exact (sfree_any m).mono fun e w' ⟨he, hb⟩ => ⟨he, h0.below hb.out⟩
theorem Sw.used (h : Sw w W s p P N mi) : Calls Tryz.prog 22 #[.pointer (some ⟨s, 0, none⟩)] W fun e w' => ∃ v, e = .returned v /\ Hid (Bm.OwnX W.heap.size w' v (Bm.rs (Bm.stL (turnB P.bits) 0 true (firstD P.n)) P.n)) /\ Hid (Sw w w' s p P N mi) := by
 have h0 := h
 obtain ⟨S, _, m, _⟩ := h
 exact (sused_any m).mono fun e w' ⟨v, he, hx, hb⟩ => ⟨v, he, hx, h0.below hb.out⟩
theorem Sw.state (h : Sw w W s p P N mi) (hm : mi + 4096 < 1000000) : Calls Tryz.prog 35 #[.pointer (some ⟨s, 0, none⟩)] W fun e w' => e = .returned (.string (txt P.stateL)) /\ Hid (Sw w w' s p P N (mi + 4096)) :=
 h.call fun S m => state_any m hm
set_option maxHeartbeats 4000000 in
theorem shown7_any (w : World) : Calls Tryz.prog 10 #[] w fun e w' => e = .returned (.bool true) /\ Hid (Below w.heap.size w w') := by
 obtain ⟨P1, P2, P3, P4, P5, P6, P7, h⟩ := shows (fl7 97) (fl7_size _)
 have CF := Lib.hid (formatted_any 128 (by omega) (by omega) 64 (by omega) (by omega) w)
 have HF : Hid (∀ W, Calls Tryz.prog 43 #[.int .u8 97] W fun e w' => e = .returned (.string (fl7 97)) /\ Below W.heap.size W w') := fun W => full7_any 97 W
 generalize TS.opened 128 (H0 128) = P0 at *
 have HH := Lib.hid h
 have hfl : (fl7 97).size <= maxLen := by rw [fl7_size]; decide
 clear h
 generalize fl7 97 = T at *
 go_enter Tryz.func10, Tryz.ntmps10
 go_wp2_with fail
 refine CF.out.mono ?_
 rintro e w1 ⟨p, s, S, rfl, hf1⟩
 have HS1 : Hid (Sw w w1 s p P0 5 0) := ⟨S, hf1.out.1, hf1.out.2.1, hf1.out.2.2.1⟩
 clear hf1 CF
 have C1 := Lib.hid HS1.out.first
 rw [HH.out.n0, m_first] at C1
 go_wp2_with fail
 refine C1.out.mono ?_
 rintro e w1' ⟨rfl, rfl⟩
 have C2 := Lib.hid HS1.out.free
 rw [HH.out.fr0] at C2
 go_wp2_with fail
 refine C2.out.mono ?_
 rintro e w2 ⟨rfl, HS2⟩
 clear C1 C2 HS1
 have C3 := Lib.hid (HS2.out.alloc 2 (by omega) HH.out.al0)
 go_wp2_with fail
 refine C3.out.mono ?_
 rintro e w3 ⟨rfl, HS3⟩
 clear C3 HS2
 have C4 := Lib.hid (HS3.out.begin_ HH.out.be0)
 go_wp2_with fail
 refine C4.out.mono ?_
 rintro e w4 ⟨rfl, HS4⟩
 clear C4 HS3
 have C5 := Lib.hid (HS4.out.alloc 2 (by omega) HH.out.al1)
 go_wp2_with fail
 refine C5.out.mono ?_
 rintro e w5 ⟨rfl, HS5⟩
 clear C5 HS4
 go_wp2_with fail
 refine (HF.out _).mono ?_
 rintro e w6 ⟨rfl, hb6⟩
 have HS6 := Lib.hid (HS5.out.below hb6)
 clear hb6 HS5
 have C7 := Lib.hid (HS6.out.write 64 (by omega) T hfl HH.out.wr2)
 go_wp2_with fail
 refine C7.out.mono ?_
 rintro e w7 ⟨rfl, HS7⟩
 clear C7 HS6
 go_wp2_with fail
 refine (HF.out _).mono ?_
 rintro e w8 ⟨rfl, hb8⟩
 have HS8 := Lib.hid (HS7.out.below hb8)
 clear hb8 HS7
 have C9 := Lib.hid (HS8.out.write 66 (by omega) T hfl HH.out.wr3)
 go_wp2_with fail
 refine C9.out.mono ?_
 rintro e w9 ⟨rfl, HS9⟩
 clear C9 HS8
 have C10 := Lib.hid (HS9.out.commit (by omega) HH.out.co3)
 go_wp2_with fail
 refine C10.out.mono ?_
 rintro e w10 ⟨rfl, N', hN', HS10⟩
 clear C10 HS9
 have C11 := Lib.hid HS10.out.used
 rw [HH.out.us4] at C11
 go_wp2_with fail
 refine C11.out.mono ?_
 rintro e w11 ⟨v, rfl, HX, HS11⟩
 clear C11
 obtain ⟨g, vc, hv, _, _, _, hx, _⟩ := HX.out.here (by simp)
 subst hv
 have e0 := (hx 0 (by simp)).1
 have e1 := (hx 0 (by simp)).2
 simp at e0 e1
 clear hx HS10
 have C12 := Lib.hid (HS11.out.begin_ HH.out.be4)
 go_wp2_with fail
 refine C12.out.mono ?_
 rintro e w12 ⟨rfl, HS12⟩
 clear C12 HS11
 have C13 := Lib.hid (HS12.out.release 64 1 (by omega) (by omega) HH.out.re5)
 go_wp2_with fail
 refine C13.out.mono ?_
 rintro e w13 ⟨rfl, HS13⟩
 clear C13 HS12
 have C14 := Lib.hid (HS13.out.alloc 64 (by omega) HH.out.al6)
 go_wp2_with fail
 refine C14.out.mono ?_
 rintro e w14 ⟨rfl, HS14⟩
 clear C14 HS13
 have C15 := Lib.hid (HS14.out.abort HH.out.un6)
 go_wp2_with fail
 refine C15.out.mono ?_
 rintro e w15 ⟨rfl, HS15⟩
 clear C15 HS14
 have C16 := Lib.hid (HS15.out.read 64 (by omega) (by omega) HH.out.rd7)
 go_wp2_with fail
 refine C16.out.mono ?_
 rintro e w16 ⟨rfl, HS16⟩
 clear C16 HS15
 have C17 := Lib.hid HS16.out.free
 rw [HH.out.fr7] at C17
 go_wp2_with fail
 refine C17.out.mono ?_
 rintro e w17 ⟨rfl, HS17⟩
 clear C17 HS16
 go_wp2_with fail
 refine (HF.out _).mono ?_
 rintro e w18 ⟨rfl, hb18⟩
 have HB18 : Hid (Below w.heap.size w w18) := HS17.out.bel.trans (hb18.mono HS17.out.bel.size)
 clear hb18 HS17
 go_wp2
 go_ret
 exact ⟨rfl, HB18⟩
end
end Go.Proofs.YthambopnmhkeeaaGreat

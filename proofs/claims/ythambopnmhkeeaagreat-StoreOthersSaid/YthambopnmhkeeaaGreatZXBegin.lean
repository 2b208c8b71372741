/- What begin answers: both worlds on new devices. -/
import Derived.Test.YthambopnmhkeeaaGreatZXForm
import Derived.Test.YthambopnmhkeeaaGreatZSForm
import Derived.Test.YthambopnmhkeeaaGreatZCDirty
import Derived.Test.YthambopnmhkeeaaGreatZRef6
import Derived.Test.YthambopnmhkeeaaGreatZSShown
import Derived.Test.YthambopnmhkeeaaGreatZSTold

set_option maxRecDepth 100000
namespace Go.Proofs.YthambopnmhkeeaaGreat
open Go.RowKit
theorem rbegin_pack (n : Nat) (h1 : 128 <= n) (h2 : n <= 4096) : ∃ Z DC J2 F G, Sync 4 n J2 DC G F /\ (∀ b : Nat, 62 <= b -> b < n -> G b = H0 n b) /\ DC.fused = false /\ DC.pend.length <= 200 /\
  (∀ w, Calls Tryz.prog 25 #[.int .i64 (n : Int)] w fun e w' => ∃ r, e = .returned (.tuple #[.pointer (some ⟨r, 0, none⟩), .bool true]) /\ ∃ S : Nat -> Prop, (∀ k, S k -> w.heap.size <= k) /\ RStands S w' r Z /\ Below w.heap.size w w') /\
  ∀ (S : Nat -> Prop) w r, RStands S w r Z -> Calls Tryz.prog 27 #[.pointer (some ⟨r, 0, none⟩)] w fun e w' => e = .returned (.int .i64 0) /\ Hid (RLeaves S w w' r DC) := by
 obtain ⟨DC, J2, F, G, a1, a2, a3, a4, a5⟩ := rformat7_pack n h1 h2
 exact ⟨DevS.made n, DC, J2, F, G, a1, a2, a3, a4, fun w => rnew_yes n w (by omega) h2, a5⟩
structure Bw (w0 w : World) (wb mb s p s' a r : Nat) (S S2 : Nat -> Prop) (P : TS) (J : JS) (D : DevS) : Prop where
 ws : Ws w0 w wb s p S P 5 0
 own : ∀ k, S2 k -> w0.heap.size <= k
 dis : ∀ k, S k -> ¬ S2 k
 dv : RStands S2 w r D
 jr : Jr 136 w a r J
 na : ¬ S2 a
 ns : ¬ S2 s'
 ne : a ≠ s'
 sa : ¬ S a
 ss : ¬ S s'
 la : w0.heap.size <= a
 ls : w0.heap.size <= s'
 lm : w0.heap.size <= mb
 hs : w.heap[s']? = some (.cells #[.pointer (some ⟨a, 0, none⟩), .bool false, .slice none 0 0] 132 (0, 0))
 hm : w.heap[mb]? = some (.cells #[.pointer (some ⟨r, 0, none⟩), .pointer (some ⟨s', 0, none⟩)] 45 (0, 0))
 mS : ¬ S mb
 mS2 : ¬ S2 mb
 wS2 : ¬ S2 wb
 d1 : wb ≠ mb
 d2 : wb ≠ a
 d3 : wb ≠ s'
 d4 : mb ≠ a
 d5 : mb ≠ s'
set_option maxHeartbeats 4000000 in
theorem begin7_any (m : Nat) (hm1 : 64 <= m) (hm2 : m <= 1024) (w : World) : ∃ J D F G, Sync 5 132 J D G F /\ (∀ b : Nat, 62 <= b -> b < 132 -> G b = H0 132 b) /\ D.fused = false /\ D.pend = [] /\
  Calls Tryz.prog 13 #[.int .i64 (m : Int)] w fun e w' => ∃ wb mb s p s' a r S S2, e = .returned (.tuple #[.pointer (some ⟨wb, 0, none⟩), .pointer (some ⟨mb, 0, none⟩), .bool true]) /\ Hid (Bw w w' wb mb s p s' a r S S2 (TS.opened 132 (H0 132)) J D) := by
 obtain ⟨n, hn⟩ : ∃ n, (132 : Nat) = n := ⟨_, rfl⟩
 have hni : ((132 : Int)) = (n : Int) := by omega
 obtain ⟨Z, DC, J2, F, G, a1, a2, a3, a4, cn, cf⟩ := rbegin_pack 132 (by omega) (by omega)
 obtain ⟨o1, o2, o3, o4, o5⟩ := open_live a1 (by omega) a3
 refine ⟨J2.next', DC.opn.2.1, [], G, o3, a2, o5, o4, ?_⟩
 have CN := Lib.hid (cn w); have CF := Lib.hid cf
 have C0 := Lib.hid (formatted_any 132 (by omega) (by omega) m hm1 hm2 w)
 have CN : Hid (∀ W, Calls Tryz.prog 25 #[.int .i64 132] W fun e w' => ∃ r, e = .returned (.tuple #[.pointer (some ⟨r, 0, none⟩), .bool true]) /\ ∃ S : Nat -> Prop, (∀ k, S k -> W.heap.size <= k) /\ RStands S w' r Z /\ Below W.heap.size W w') := cn
 have CO : Hid (∀ (S : Nat -> Prop) W r, RStands S W r DC -> Calls Tryz.prog 31 #[.pointer (some ⟨r, 0, none⟩), .int .i64 64] W fun e w' => ∃ s a S2, e = .returned (.tuple #[.pointer (some ⟨s, 0, none⟩), .int .i64 0]) /\ Hid (Rop S W w' s a r J2.next' DC.opn.2.1 S2)) := fun S W r h =>
  ropen7_any h a1 a3 (by omega) a2 (H0_ok 132 (by omega) (by omega)) (by omega)
 clear cn cf a1 a2 a3 a4 o1 o2 o3 o4 o5 hn hni
 rw [show (((132 : Nat) : Nat) : Int) = 132 from rfl] at C0
 generalize DC.opn.2.1 = D2 at *
 generalize J2.next' = J3 at *
 generalize TS.opened 132 (H0 132) = P at *
 go_enter Tryz.func13, Tryz.ntmps13
 go_wp2_with fail
 refine C0.out.mono ?_
 rintro e w1 ⟨p, s, S, rfl, HF1⟩
 clear C0
 go_wp2_with fail
 refine (CN.out _).mono ?_
 rintro e w2 ⟨r, rfl, S2, e1, e2, e3⟩
 have CF2 := Lib.hid (CF.out S2 w2 r e2)
 have HE1 := Lib.hid e1; have HE3 := Lib.hid e3
 clear e1 e2 e3 CN CF
 go_wp2_with fail
 refine CF2.out.mono ?_
 rintro e w3 ⟨rfl, hv3⟩
 obtain ⟨S3, g1, g2, g3⟩ := hv3.out
 have CO3 := Lib.hid (CO.out S3 w3 r g2)
 have hz3 := HE3.out.size
 have HS3 : Hid (∀ k, S3 k -> w1.heap.size <= k) := fun k hk => by
  rcases g1 k hk with h | h
  ·exact HE1.out k h
  ·omega
 have HB3 : Hid (Below w1.heap.size w1 w3) := HE3.out.trans (g3.below hz3 (fun k _ hk => HE1.out k hk))
 clear g1 g2 g3 hv3 CO CF2 HE1 HE3 hz3
 go_wp2_with fail
 refine CO3.out.mono ?_
 rintro e w4 ⟨s', a, S4, rfl, HR⟩
 clear CO3
 go_wp2
 go_ret3
 obtain ⟨f1, f2, f3, f4⟩ := HF1.out
 have hz1 := HB3.out.size
 have R := HR.out
 have hz4 := R.only.size
 have hO4 : Below w1.heap.size w1 w4 := HB3.out.trans (R.only.below hz1 (fun k _ hk => HS3.out k hk))
 have hz5 := hO4.size
 obtain ⟨X, hX⟩ : ∃ X, w4.alloc (.cells #[.pointer (some ⟨p, 0, none⟩), .pointer (some ⟨s, 0, none⟩)] 40) = X := ⟨_, rfl⟩
 have hXz : X.heap.size = w4.heap.size + 1 := by rw [<- hX]; simp
 have hXh : X.heap[w4.heap.size]? = some (.cells #[.pointer (some ⟨p, 0, none⟩), .pointer (some ⟨s, 0, none⟩)] 40 (0, 0)) := by rw [<- hX]; exact heap_alloc_new ..
 have hXb : Below w4.heap.size w4 X := by rw [<- hX]; exact (Below.refl _ _).alloc (Nat.le_refl _) _
 rw [hX]
 clear hX
 obtain ⟨Y, hY⟩ : ∃ Y, X.alloc (.cells #[.pointer (some ⟨r, 0, none⟩), .pointer (some ⟨s', 0, none⟩)] 45) = Y := ⟨_, rfl⟩
 have hYb : Below X.heap.size X Y := by rw [<- hY]; exact (Below.refl _ _).alloc (Nat.le_refl _) _
 have hYh : Y.heap[X.heap.size]? = some (.cells #[.pointer (some ⟨r, 0, none⟩), .pointer (some ⟨s', 0, none⟩)] 45 (0, 0)) := by rw [<- hY]; exact heap_alloc_new ..
 rw [hY]
 clear hY
 have hb : Below w4.heap.size w4 Y := hXb.trans (hYb.mono (by omega))
 have hSl := f2.slt
 have hSj : ∀ k, S k -> k < w1.heap.size := hSl
 have h4l := R.dv.lt
 have hS4 : ∀ k, S4 k -> w1.heap.size <= k := fun k hk => by
  rcases R.own k hk with h | h
  ·exact HS3.out k h
  ·omega
 have hal := R.jr.lt
 have hsl := (Array.getElem?_eq_some_iff.1 R.hs).1
 have hala := R.la
 have hsla := R.ls
 have hwz := f3.size
 rw [hXz] at hYh
 refine ⟨w4.heap.size, w4.heap.size + 1, s, p, s', a, r, S, S4, rfl, ⟨⟨f1, f2.below (hO4.trans (hb.mono hz5)), ?_, fun hk => by have := hSj _ hk; omega, by omega, f3.trans ((hO4.trans (hb.mono hz5)).mono hwz)⟩, fun k hk => by have := hS4 k hk; omega, fun k hk h2 => by have := hS4 k h2; have := hSj k hk; omega, R.dv.below hb, R.jr.below hb, R.na, R.ns, R.ne, fun hk => by have := hSj _ hk; omega, fun hk => by have := hSj _ hk; omega, by omega, by omega, by omega, ?_, hYh, fun hk => by have := hSj _ hk; omega, fun hk => by have := h4l _ hk; omega, fun hk => by have := h4l _ hk; omega, by omega, by omega, by omega, by omega, by omega⟩⟩
 ·rw [hYb.block _ (by omega)]; exact hXh
 ·rw [hb.block _ hsl]; exact R.hs
end Go.Proofs.YthambopnmhkeeaaGreat
/- The statements' world of a store, whatever was done with it. -/
namespace Go.Proofs.YthambopnmhkeeaaGreat
open Go.RowKit
theorem doesT_n (A : Act7) (P : TS) : (doesT A P).2.n = P.n := by
 unfold doesT
 split
 ·exact (TS.kept_write _ _ _).1
 split
 ·exact (TS.kept_alloc _ _).1
 split
 ·exact (TS.kept_release _ _ _).1
 split
 ·exact TS.begin_n P
 split
 ·exact TS.commit_n P
 split
 ·rfl
 ·rfl
theorem doesT_H (A : Act7) {P : TS} (h : P.Ok) : (doesT A P).2.H 62 = P.H 62 := by
 unfold doesT
 split
 ·exact congrFun (TS.kept_write _ _ _).2.1 62
 split
 ·exact congrFun (TS.kept_alloc _ _).2.1 62
 split
 ·exact congrFun (TS.kept_release _ _ _).2.1 62
 split
 ·exact congrFun (TS.begin_H P) 62
 split
 ·exact TS.commit_H h
 split
 ·rfl
 ·rfl
def Wx (w0 W : World) (wb s p : Nat) (P : TS) (N mi : Nat) : Prop := ∃ S, Ws w0 W wb s p S P N mi
section
variable {w0 W w' : World} {wb s p b N N' mi mi' : Nat} {P P' : TS} {f : FuncId} {args : Array Value} {r : Value} {A : Act7}
theorem Wx.bel (h : Wx w0 W wb s p P N mi) : Below w0.heap.size w0 W := by obtain ⟨S, h⟩ := h; exact h.bel
theorem Wx.c0 (h : Wx w0 W wb s p P N mi) : W.cell? ⟨wb, 0, none⟩ = some (.pointer (some ⟨p, 0, none⟩)) := by obtain ⟨S, h⟩ := h; exact h.c0
theorem Wx.c1 (h : Wx w0 W wb s p P N mi) : W.cell? ⟨wb, 1, none⟩ = some (.pointer (some ⟨s, 0, none⟩)) := by obtain ⟨S, h⟩ := h; exact h.c1
theorem Wx.ok (h : Wx w0 W wb s p P N mi) : P.Ok := by obtain ⟨S, h⟩ := h; exact h.st.ok
theorem Wx.below (h : Wx w0 W wb s p P N mi) (hb : Below W.heap.size W w') : Wx w0 w' wb s p P N mi := by obtain ⟨S, h⟩ := h; exact ⟨S, h.below hb⟩
theorem Wx.call (h : Wx w0 W wb s p P N mi) (hc : ∀ S, St S W s p P N mi -> Calls Tryz.prog f args W fun e w' => e = .returned r /\ Hid (StL S W w' s p P' N' mi')) :
  Calls Tryz.prog f args W fun e w' => e = .returned r /\ Hid (Wx w0 w' wb s p P' N' mi') := by
 obtain ⟨S, h⟩ := h
 exact (hc S h.st).mono fun e w' ⟨he, hl⟩ => ⟨he, h.leaves hl.out⟩
theorem Wx.alloc (h : Wx w0 W wb s p P N mi) (k : Int) (hk : -9223372036854775808 <= k /\ k <= 9223372036854775807) {a e : Int} (hP : P.alloc k = ((a, e), P')) :
  Calls Tryz.prog 39 #[.pointer (some ⟨s, 0, none⟩), .int .i64 k] W fun x w' => x = .returned (.tuple #[.int .i64 a, .int .i64 e]) /\ Hid (Wx w0 w' wb s p P' N mi) :=
 h.call fun S m => by have := salloc_any m k hk; rw [hP] at this; exact this
theorem Wx.begin_ (h : Wx w0 W wb s p P N mi) {e : Int} (hP : P.begin_ = (e, P')) :
  Calls Tryz.prog 38 #[.pointer (some ⟨s, 0, none⟩)] W fun x w' => x = .returned (.int .i64 e) /\ Hid (Wx w0 w' wb s p P' N mi) :=
 h.call fun S m => by have := sbegin_any m; rw [hP] at this; exact this
theorem Wx.write (h : Wx w0 W wb s p P N mi) (i : Int) (hi : -9223372036854775808 <= i /\ i <= 9223372036854775807) (d : ByteArray) (hd : d.size <= maxLen) {e : Int} (hP : P.write i d = (e, P')) :
  Calls Tryz.prog 42 #[.pointer (some ⟨s, 0, none⟩), .int .i64 i, .string d] W fun x w' => x = .returned (.int .i64 e) /\ Hid (Wx w0 w' wb s p P' N mi) :=
 h.call fun S m => by have := swrite_any m i hi d hd; rw [hP] at this; exact this
theorem Wx.release (h : Wx w0 W wb s p P N mi) (i k : Int) (hi : -9223372036854775808 <= i /\ i <= 9223372036854775807) (hk : -9223372036854775808 <= k /\ k <= 9223372036854775807) {e : Int} (hP : P.release i k = (e, P')) :
  Calls Tryz.prog 40 #[.pointer (some ⟨s, 0, none⟩), .int .i64 i, .int .i64 k] W fun x w' => x = .returned (.int .i64 e) /\ Hid (Wx w0 w' wb s p P' N mi) :=
 h.call fun S m => by have := srelease_any m i k hi hk; rw [hP] at this; exact this
theorem Wx.abort (h : Wx w0 W wb s p P N mi) : Calls Tryz.prog 37 #[.pointer (some ⟨s, 0, none⟩)] W fun x w' => x = .returned (.tuple #[]) /\ Hid (Wx w0 w' wb s p P.undo N mi) :=
 h.call fun S m => sabort_any m
theorem Wx.read (h : Wx w0 W wb s p P N mi) (i : Int) (hi : -9223372036854775808 <= i /\ i <= 9223372036854775807) (hm : mi < 1000000) {t : ByteArray} {e : Int} (hP : P.read i = (t, e)) :
  Calls Tryz.prog 41 #[.pointer (some ⟨s, 0, none⟩), .int .i64 i] W fun x w' => x = .returned (.tuple #[.string t, .int .i64 e]) /\ Hid (Wx w0 w' wb s p P N (mi + 1)) :=
 h.call fun S m => by have := sread_any m i hi hm; rw [hP] at this; exact this
theorem Wx.commit (h : Wx w0 W wb s p P N mi) (hN : N + 2 <= 10000) {e : Int} (hP : P.commit = (e, P')) :
  Calls Tryz.prog 44 #[.pointer (some ⟨s, 0, none⟩)] W fun x w' => x = .returned (.int .i64 e) /\ ∃ N', N' <= N + 2 /\ Hid (Wx w0 w' wb s p P' N' mi) := by
 obtain ⟨S, h⟩ := h
 have := scommit_any h.st hN
 rw [hP] at this
 exact this.mono fun e w' ⟨he, N', hN', hl⟩ => ⟨he, N', hN', h.leaves hl.out⟩
theorem Wx.first (h : Wx w0 W wb s p P N mi) : Calls Tryz.prog 32 #[.pointer (some ⟨s, 0, none⟩)] W fun e w' => e = .returned (.int .i64 (firstD P.n : Nat)) /\ W = w' := by
 obtain ⟨S, h⟩ := h
 obtain ⟨SH, SC, h, c, C, a, _⟩ := h.st
 exact sfirst_any a
theorem Wx.firstH (h : Wx w0 W wb s p P N mi) : Calls Tryz.prog 32 #[.pointer (some ⟨s, 0, none⟩)] W fun e w' => e = .returned (.int .i64 (firstD P.n : Nat)) /\ Hid (Wx w0 w' wb s p P N mi) :=
 h.first.mono fun e w' ⟨he, hw⟩ => ⟨he, by rw [<- hw]; exact Lib.hid h⟩
theorem Wx.free (h : Wx w0 W wb s p P N mi) : Calls Tryz.prog 17 #[.pointer (some ⟨s, 0, none⟩)] W fun e w' => e = .returned (.int .i64 (Bm.fr P.bits P.n : Nat)) /\ Hid (Wx w0 w' wb s p P N mi) := by
 have h0 := h
 obtain ⟨S, h⟩ := h
 exact (sfree_any h.st).mono fun e w' ⟨he, hb⟩ => ⟨he, h0.below hb.out⟩
theorem Wx.used (h : Wx w0 W wb s p P N mi) : Calls Tryz.prog 22 #[.pointer (some ⟨s, 0, none⟩)] W fun e w' => ∃ v, e = .returned v /\ Hid (Bm.OwnX W.heap.size w' v (Bm.rs (Bm.stL (turnB P.bits) 0 true (firstD P.n)) P.n)) /\ Hid (Wx w0 w' wb s p P N mi) := by
 have h0 := h
 obtain ⟨S, h⟩ := h
 exact (sused_any h.st).mono fun e w' ⟨v, he, hx, hb⟩ => ⟨v, he, hx, h0.below hb.out⟩
theorem Wx.state (h : Wx w0 W wb s p P N mi) (hm : mi + 4096 < 1000000) {T : List UInt8} (hT : P.stateL = T) : Calls Tryz.prog 35 #[.pointer (some ⟨s, 0, none⟩)] W fun e w' => e = .returned (.string (txt T)) /\ Hid (Wx w0 w' wb s p P N (mi + 4096)) := by
 rw [<- hT]
 exact h.call fun S m => state_any m hm
theorem Wx.heldW (h : Wx w0 W wb s p P N mi) (hx : w0.heap[b]? = some (.cells A.cells.toArray 35 (0, 0))) : HeldW wb s p b A W := by
 have hb := (Array.getElem?_eq_some_iff.1 hx).1
 have h2 := h.bel
 obtain ⟨S, h⟩ := h
 exact Go.Proofs.YthambopnmhkeeaaGreat.heldW h (by rw [h2.block b hb]; exact hx)
theorem Wx.callH (h : Wx w0 W wb s p P N mi) (hx : w0.heap[b]? = some (.cells A.cells.toArray 35 (0, 0)))
  (hc : ∀ X, Wx w0 X wb s p P N mi -> Calls Tryz.prog f args X fun e w' => e = .returned r /\ Hid (Wx w0 w' wb s p P' N' mi')) :
  Hid (∀ X, Below W.heap.size W X -> Calls Tryz.prog f args X fun e w' => e = .returned r /\ Hid (Wx w0 w' wb s p P' N' mi') /\ HeldW wb s p b A w') := fun X hX =>
 (hc X (h.below hX)).mono fun e w' ⟨he, hl⟩ => ⟨he, hl, hl.out.heldW hx⟩
theorem Wx.callB (h : Wx w0 W wb s p P N mi) (hc : ∀ X, Wx w0 X wb s p P N mi -> Calls Tryz.prog f args X fun e w' => e = .returned r /\ Hid (Wx w0 w' wb s p P' N' mi')) :
  Hid (∀ X, Below W.heap.size W X -> Calls Tryz.prog f args X fun e w' => e = .returned r /\ Hid (Wx w0 w' wb s p P' N' mi') /\ w'.cell? ⟨wb, 1, none⟩ = some (.pointer (some ⟨s, 0, none⟩))) := fun X hX =>
 (hc X (h.below hX)).mono fun e w' ⟨he, hl⟩ => ⟨he, hl, hl.out.c1⟩
theorem Wx.does (h : Wx w0 W wb s p P N mi) (A : Act7) (hA : A.Ok w0) (ho : pickI A.op 11 < 9) (hN : N + 2 <= 10000) (hm : mi < 1000000) :
  Calls Tryz.prog 14 #[.pointer (some ⟨wb, 0, none⟩), .agg #[.int .i64 A.op, .int .i64 A.at_, .int .i64 A.n, .slice A.kao A.keep.length A.kcap, .int .u8 A.b], .int .i64 64] W fun e w' => e = .returned (.tuple #[.int .i64 (doesT A P).1.1, .string (doesT A P).1.2.1, .int .i64 (doesT A P).1.2.2]) /\ Hid (∃ N', N' <= N + 2 /\ Wx w0 w' wb s p (doesT A P).2 N' (mi + 1)) := by
 obtain ⟨S, h⟩ := h
 refine (does7_any h A hA ho hN hm).mono ?_
 rintro e w' ⟨he, hl⟩
 refine ⟨he, ?_⟩
 obtain ⟨N', S', h1, h2⟩ := hl.out
 exact ⟨N', h1, S', h2⟩
theorem Act7.Ok.below {w0 w : World} {A : Act7} (h : A.Ok w0) (hb : Below w0.heap.size w0 w) : A.Ok w := by
 refine ⟨h.op0, h.at0, h.n0, h.klen, ?_⟩
 rcases h.keeps with h | ⟨g, off, h1, h2, h3⟩
 ·exact .inl h
 ·exact .inr ⟨g, off, h1, Nat.lt_of_lt_of_le h2 hb.size, fun i hi => (hb.cell (p := ⟨g, off + i, none⟩) h2).trans (h3 i hi)⟩
end
def Lp (w0 W : World) (wb s p k : Nat) : Prop := ∃ P N, Wx w0 W wb s p P N k /\ N <= 5 + 2 * k /\ P.n = 132 /\ P.H 62 = labelB 132
section
variable {w0 W w' : World} {wb s p k : Nat}
theorem Lp.bel (h : Lp w0 W wb s p k) : Below w0.heap.size w0 W := by obtain ⟨P, N, h, _⟩ := h; exact h.bel
theorem Lp.c1 (h : Lp w0 W wb s p k) : W.cell? ⟨wb, 1, none⟩ = some (.pointer (some ⟨s, 0, none⟩)) := by obtain ⟨P, N, h, _⟩ := h; exact h.c1
theorem Lp.next (h : Lp w0 W wb s p k) : Lp w0 W wb s p (k + 1) := by
 obtain ⟨P, N, ⟨S, h⟩, h2, h3⟩ := h
 exact ⟨P, N, ⟨S, h.more (by omega)⟩, by omega, h3⟩
theorem Lp.does (h : Lp w0 W wb s p k) (A : Act7) (hA : A.Ok w0) (ho : pickI A.op 11 < 9) (hk : k <= 100) :
  Calls Tryz.prog 14 #[.pointer (some ⟨wb, 0, none⟩), .agg #[.int .i64 A.op, .int .i64 A.at_, .int .i64 A.n, .slice A.kao A.keep.length A.kcap, .int .u8 A.b], .int .i64 64] W fun e w' => ∃ x t y, e = .returned (.tuple #[.int .i64 x, .string t, .int .i64 y]) /\ Hid (Lp w0 w' wb s p (k + 1)) := by
 obtain ⟨P, N, h, h2, h3, h6⟩ := h
 have hok := h.ok
 refine (h.does A hA ho (by omega) (by omega)).mono ?_
 rintro e w' ⟨he, hl⟩
 refine ⟨_, _, _, he, ?_⟩
 obtain ⟨N', h4, h5⟩ := hl.out
 exact ⟨_, N', h5, by omega, (doesT_n A P).trans h3, (doesT_H A hok).trans h6⟩
end
theorem begin_wx (w : World) : Calls Tryz.prog 13 #[.int .i64 64] w fun e w' => ∃ wb mb s p, e = .returned (.tuple #[.pointer (some ⟨wb, 0, none⟩), .pointer (some ⟨mb, 0, none⟩), .bool true]) /\ Hid (Lp w w' wb s p 0) := by
 obtain ⟨J, D, F, G, _, _, _, _, h⟩ := begin7_any 64 (by omega) (by omega) w
 refine Calls.mono h ?_
 rintro e w' ⟨wb, mb, s, p, s', a, r, S, S2, he, hb⟩
 exact ⟨wb, mb, s, p, he, ⟨_, 5, ⟨S, hb.out.ws⟩, by omega, rfl, (H0_ok 132 (by omega) (by omega)).label⟩⟩
end Go.Proofs.YthambopnmhkeeaaGreat

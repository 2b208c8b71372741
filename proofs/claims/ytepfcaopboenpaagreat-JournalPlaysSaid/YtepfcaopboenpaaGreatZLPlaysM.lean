/- A journal and the document's journal, each on a device of its own, side by side. -/
import Derived.Test.YtepfcaopboenpaaGreatZLHome
import Derived.Test.YtepfcaopboenpaaGreatZLBoth
import Derived.Test.YtepfcaopboenpaaGreatZVCommitB
import Derived.Test.YtepfcaopboenpaaGreatZRef7
import Derived.Test.YtepfcaopboenpaaGreatZAt

namespace Go.Proofs.YtepfcaopboenpaaGreat
open Go.RowKit
open Fr (SlW OwnW SlS)

/-- The statements' world says J on D; block b is the document's journal, over the device r: it says K on E. -/
structure JP (w0 w : World) (wb a p : Nat) (S : Nat → Prop) (J : JS) (D : DevS) (b r : Nat) (S2 : Nat → Prop) (K : JS) (E : DevS) : Prop where
  wd : Wd w0 w wb a p S J D
  rs : RStands S2 w r E
  rj : Jr 57 w b r K
  n2 : ¬ S2 b
  ds : ∀ k, (S2 k ∨ k = b) → ¬ S k ∧ k ≠ a ∧ k ≠ wb
  o2 : ∀ k, (S2 k ∨ k = b) → w0.heap.size ≤ k
section
variable {w0 w w' : World} {wb a p b r : Nat} {S S2 : Nat → Prop} {J J' K K' : JS} {D D' E E' : DevS}
theorem JP.below (h : JP w0 w wb a p S J D b r S2 K E) (hb : Below w.heap.size w w') : JP w0 w' wb a p S J D b r S2 K E :=
  ⟨h.wd.below hb, h.rs.below hb, h.rj.below hb, h.n2, h.ds, h.o2⟩
theorem JP.bel (h : JP w0 w wb a p S J D b r S2 K E) : Below w0.heap.size w0 w := h.wd.bel
/-- The world alone, the document's blocks standing by. -/
theorem JP.toT (h : JP w0 w wb a p S J D b r S2 K E) : WdT (fun k => S2 k ∨ k = b) w w0 w wb a p S J D :=
  ⟨h.wd, Only.refl _ _, h.ds, fun k hk => by
    rcases hk with hk | hk
    · exact h.rs.lt k hk
    · rw [hk]; exact h.rj.lt⟩
theorem JP.ofT {a' : Nat} {S' : Nat → Prop} (h : JP w0 w wb a p S J D b r S2 K E) (ht : WdT (fun k => S2 k ∨ k = b) w w0 w' wb a' p S' J' D') : JP w0 w' wb a' p S' J' D' b r S2 K E :=
  ⟨ht.wd, h.rs.kept ht.on (fun k hk hn => hn (.inl hk)), h.rj.only ht.on (fun hn => hn (.inr rfl)), h.n2, ht.ts, h.o2⟩
/-- Behind a call on the document's journal. -/
theorem JP.two (h : JP w0 w wb a p S J D b r S2 K E) (hl : RJLeaves S2 w w' b r E' K') : ∃ S', JP w0 w' wb a p S J D b r S' K' E' := by
  obtain ⟨S', hS', hst, hjr, ho⟩ := hl
  have hlb := h.rj.lt
  have hla := h.wd.jr.lt
  have hlw := h.wd.lt
  have hsz := h.wd.bel.size
  refine ⟨S', ⟨⟨h.wd.own, h.wd.dev.kept ho (fun k hk h1 => (h.ds k h1).1 hk), h.wd.jr.only ho (fun h1 => (h.ds a h1).2.1 rfl), by rw [ho.block wb hlw (fun h1 => (h.ds wb h1).2.2 rfl)]; exact h.wd.wh, h.wd.na, h.wd.nw, h.wd.aw, h.wd.la, h.wd.lw, below_only h.wd.bel ho h.o2⟩, hst, hjr, fun hk => ?_, fun k hk => ?_, fun k hk => ?_⟩⟩
  · rcases hS' b hk with h1 | h1
    · exact h.n2 h1
    · omega
  · rcases hk with hk | hk
    · rcases hS' k hk with h1 | h1
      · exact h.ds k (.inl h1)
      · exact ⟨fun hs => by have := h.wd.dev.lt k hs; omega, by omega, by omega⟩
    · exact h.ds k (.inr hk)
  · rcases hk with hk | hk
    · rcases hS' k hk with h1 | h1
      · exact h.o2 k (.inl h1)
      · omega
    · exact h.o2 k (.inr hk)
/-- Behind a call on the document's device. -/
theorem JP.dev (h : JP w0 w wb a p S J D b r S2 K E) (hl : RLeaves S2 w w' r E') : ∃ S', JP w0 w' wb a p S J D b r S' K E' := by
  obtain ⟨S', hS', hst, ho⟩ := hl
  exact h.two ⟨S', hS', hst, h.rj.only ho h.n2, ho.mono (fun _ _ h => .inl h)⟩
theorem JP.does (h : JP w0 w wb a p S J D b r S2 K E) (A : Act4) (hA : A.Ok w0) (hf : A.Fits) {N m : Nat} (hw : Well N m J D) (hN : N + 2 < 1000000) (hm : m ≤ 500000) :
    Calls Tryz.prog 10 #[.pointer (some ⟨wb, 0, none⟩), .agg #[.int .i64 A.op, .int .i64 A.n, .int .i64 A.at_, .slice A.kao A.keep.length A.kcap, .slice A.bao A.blks.length A.bcap, .string A.data]] w fun e w' => e = .returned (.int .i64 (doesJ A J D).1) ∧ ∃ a' S', JP w0 w' wb a' p S' (doesJ A J D).2.2 (doesJ A J D).2.1 b r S2 K E :=
  (does4_T h.toT A hA hf hw hN hm).mono fun e w' ⟨he, a', S', ht⟩ => ⟨he, a', S', h.ofT ht⟩
theorem JP.ckp (h : JP w0 w wb a p S J D b r S2 K E) (ok : K.Ok E.disk.length) (hp : E.pend.length ≤ 800000) : Calls Tryz.prog 12 #[.pointer (some ⟨b, 0, none⟩)] w fun e w' => e = .returned (.int .i64 (K.ckp E).1) ∧ ∃ S', JP w0 w' wb a p S J D b r S' (K.ckp E).2.2 (K.ckp E).2.1 :=
  (vckp_any h.rj h.rs h.n2 ok hp).mono fun e w' ⟨he, hl⟩ => ⟨he, h.two hl⟩
theorem JP.fuse (h : JP w0 w wb a p S J D b r S2 K E) (n : Int) (hn : n ≤ 9223372036854775807) : Calls Tryz.prog 13 #[.pointer (some ⟨r, 0, none⟩), .int .i64 n] w fun e w' => e = .returned (.tuple #[]) ∧ ∃ S', JP w0 w' wb a p S J D b r S' K (E.setFuse n) :=
  (rfuse_st n hn h.rs).mono fun e w' ⟨he, h1, h2⟩ => ⟨he, h.dev (.mk h1 h2)⟩
theorem JP.crash (h : JP w0 w wb a p S J D b r S2 K E) (A : Act4) (hk : KeepIn w0 A) (hl : A.keep.length ≤ 200) (hp : E.pend.length ≤ 600000) :
    Calls Tryz.prog 14 #[.pointer (some ⟨r, 0, none⟩), .slice A.kao A.keep.length A.kcap, .int .i64 A.at_, .int .i64 A.n] w fun e w' => e = .returned (.tuple #[]) ∧ ∃ S', JP w0 w' wb a p S J D b r S' K (E.crash A.keep A.at_ A.n) := by
  refine (rcrash_any A.keep A.at_ A.n _ (by omega) (by omega) h.rs ⟨_, _, rfl, ?_⟩).mono fun e w' ⟨he, h1, h2⟩ => ⟨he, h.dev (.mk h1 h2)⟩
  rcases hk with hk | ⟨g, off, h1, h2, h3⟩
  · exact .inl hk
  · exact .inr ⟨g, off, h1, fun hs => by have := h.o2 g (.inl hs); omega, fun i hi => (h.wd.bel.cell (p := ⟨g, off + i, none⟩) h2).trans (h3 i hi)⟩
theorem JP.opn (h : JP w0 w wb a p S J D b r S2 K E) (hp : E.pend.length ≤ 600000) (hr : E.opn = (0, E', some K')) :
    Calls Tryz.prog 9 #[.pointer (some ⟨r, 0, none⟩)] w fun e w' => ∃ b', e = .returned (.tuple #[.pointer (some ⟨b', 0, none⟩), .int .i64 0]) ∧ ∃ S', JP w0 w' wb a p S J D b' r S' K' E' := by
  refine (vopen_any h.rs hp).mono fun e w' hO => ?_
  obtain ⟨S', hS', hst, ho, hm⟩ := hO
  rw [hr] at hm hst
  obtain ⟨b', he, hb', hn', hj'⟩ := hm
  have hla := h.wd.jr.lt
  have hlw := h.wd.lt
  have hsz := h.wd.bel.size
  have hlt := h.wd.dev.lt
  refine ⟨b', he, S', ⟨⟨h.wd.own, h.wd.dev.kept ho (fun k hk h1 => (h.ds k (.inl h1)).1 hk), h.wd.jr.only ho (fun h1 => (h.ds a (.inl h1)).2.1 rfl), by rw [ho.block wb hlw (fun h1 => (h.ds wb (.inl h1)).2.2 rfl)]; exact h.wd.wh, h.wd.na, h.wd.nw, h.wd.aw, h.wd.la, h.wd.lw, below_only h.wd.bel ho (fun k hk => h.o2 k (.inl hk))⟩, hst, hj', hn', fun k hk => ?_, fun k hk => ?_⟩⟩
  · rcases hk with hk | hk
    · rcases hS' k hk with h1 | h1
      · exact h.ds k (.inl h1)
      · exact ⟨fun hs => by have := hlt k hs; omega, by omega, by omega⟩
    · exact ⟨fun hs => by have := hlt k hs; omega, by omega, by omega⟩
  · rcases hk with hk | hk
    · rcases hS' k hk with h1 | h1
      · exact h.o2 k (.inl h1)
      · omega
    · omega
theorem JP.commit {W : World} {u : Value} {L : List (Int × ByteArray)} (h : JP w0 w wb a p S J D b r S2 K E) (hb : Below w.heap.size w W) (ho : OwnW w.heap.size W u L) (ok : K.Ok E.disk.length) (hp : E.pend.length ≤ 700000) (hl : L.length ≤ 1000) (hs : ∀ x ∈ L, x.2.size ≤ maxLen) :
    Calls Tryz.prog 15 #[.pointer (some ⟨b, 0, none⟩), u] W fun e w' => e = .returned (.int .i64 (K.commit E L).1) ∧ ∃ S', JP w0 w' wb a p S J D b r S' (K.commit E L).2.2 (K.commit E L).2.1 := by
  have h2 := h.below hb
  have hlb := h.rj.lt
  have hg' : ∀ g off n c, u = .slice (some ⟨g, off, none⟩) n c → w.heap.size ≤ g ∧ g < W.heap.size := fun g off n c hu => ho.lt g (by rw [hu]; rfl)
  refine (vcommit_any h2.rj h2.rs h2.n2 ok hp hl hs ho.sl (fun g off n c hu hS => ?_) ⟨fun g off n c hu => (hg' g off n c hu).2, fun g off n c hu => ?_⟩).mono fun e w' ⟨he, hj⟩ => ⟨he, h2.two hj⟩
  · have := h.rs.lt _ hS
    have := (hg' g off n c hu).1
    omega
  · have := (hg' g off n c hu).1
    omega
theorem JP.disk (h : JP w0 w wb a p S J D b r S2 K E) : Calls Tryz.prog 22 #[.pointer (some ⟨p, 0, none⟩)] w fun e w' => ∃ v, e = .returned v ∧ SlS w' v D.disk ∧ Below w.heap.size w w' :=
  (disk_any h.wd.dev).mono fun e w' ⟨v, he, ho, hb⟩ => ⟨v, he, Fr.OwnS.sl (B := w.heap.size) ho, hb⟩
theorem JP.pending (h : JP w0 w wb a p S J D b r S2 K E) (hp : D.pend.length ≤ 1000000) : Calls Tryz.prog 23 #[.pointer (some ⟨p, 0, none⟩)] w fun e w' => ∃ ao c, e = .returned (.slice ao D.pend.length c) ∧ Below w.heap.size w w' :=
  (pending_any hp h.wd.dev).mono fun e w' ⟨v, he, ho, hb⟩ => by
    obtain ⟨ao, c, rfl⟩ := own_shape ho
    exact ⟨ao, c, he, hb⟩
/-- The document's device: its blocks, and its pending writes. -/
theorem JP.rows (h : JP w0 w wb a p S J D b r S2 K E) : ∃ v ao c, w.cell? ⟨r, 0, none⟩ = some v ∧ SlS w v E.disk ∧ w.cell? ⟨r, 1, none⟩ = some (.slice ao E.pend.length c) := by
  obtain ⟨q, lcap, pv, hr⟩ := h.rs
  have hp := hr.hp
  obtain ⟨ao, c, he⟩ := own_shape hr.hr
  have c1 := hr.c1
  rw [he] at c1
  exact ⟨_, ao, c, hr.c0, Fr.OwnS.sl (B := 0) hr.hl, c1⟩
end
/-- Both sides' beginning, with devices that bear no numbers. -/
theorem plays_pack (n : Nat) (h1 : 53 ≤ n) (h2 : n ≤ 4096) : ∃ (Z DF : DevS),
    (∀ w, Calls Tryz.prog 7 #[.int .i64 (n : Int)] w fun e w' => ∃ r, e = .returned (.tuple #[.pointer (some ⟨r, 0, none⟩), .bool true]) ∧ ∃ S : Nat → Prop, (∀ k, S k → w.heap.size ≤ k) ∧ RStands S w' r Z ∧ Below w.heap.size w w') ∧
    (∀ (S : Nat → Prop) W r, RStands S W r Z → Calls Tryz.prog 8 #[.pointer (some ⟨r, 0, none⟩), .int .i64 50] W fun e w' => e = .returned (.int .i64 0) ∧ RLeaves S W w' r DF) ∧
    (∀ (S : Nat → Prop) W r, RStands S W r DF → Calls Tryz.prog 9 #[.pointer (some ⟨r, 0, none⟩)] W fun e w' => ∃ S' b, (∀ k, S' k → S k ∨ W.heap.size ≤ k) ∧ RStands S' w' r (Db n) ∧ Only S W w' ∧ e = .returned (.tuple #[.pointer (some ⟨b, 0, none⟩), .int .i64 0]) ∧ W.heap.size ≤ b ∧ ¬ S' b ∧ Jr 57 w' b r Jb) := by
  obtain ⟨s1, _, _, _⟩ := begin_sync n h1 h2
  obtain ⟨f1, f2, f3, f4, f5, f6⟩ := fmt_rec n h1 h2
  have hp0 : (DevS.made n).pend = [] := rfl
  refine ⟨DevS.made n, ((DevS.made n).fmt 50).2, fun w => rnew_yes n w (by omega) h2, fun S W r h => ?_, fun S W r h => ?_⟩
  · have := vformat_any (w := W) 50 h (by rw [hp0]; simp) (by omega)
    rw [f1] at this
    exact this
  · refine (vopen_any (w := W) h (by rw [f2]; simp)).mono fun e w' hO => ?_
    unfold VOpened at hO
    rw [s1] at hO
    obtain ⟨S', h1, h2, h3, b, h4, h5, h6, h7⟩ := hO
    exact ⟨S', b, h1, h2, h3, h4, h5, h6, h7⟩
theorem plays_begin : ∃ (Z DF DB : DevS), (∀ w, Calls Tryz.prog 6 #[] w fun e w' => ∃ wb a p S, e = .returned (.tuple #[.pointer (some ⟨wb, 0, none⟩), .bool true]) ∧ Wd w w' wb a p S Jb DB) ∧ Well 2 0 Jb DB ∧
    (∀ w, Calls Tryz.prog 7 #[.int .i64 70] w fun e w' => ∃ r, e = .returned (.tuple #[.pointer (some ⟨r, 0, none⟩), .bool true]) ∧ ∃ S : Nat → Prop, (∀ k, S k → w.heap.size ≤ k) ∧ RStands S w' r Z ∧ Below w.heap.size w w') ∧
    (∀ (S : Nat → Prop) W r, RStands S W r Z → Calls Tryz.prog 8 #[.pointer (some ⟨r, 0, none⟩), .int .i64 50] W fun e w' => e = .returned (.int .i64 0) ∧ RLeaves S W w' r DF) ∧
    (∀ (S : Nat → Prop) W r, RStands S W r DF → Calls Tryz.prog 9 #[.pointer (some ⟨r, 0, none⟩)] W fun e w' => ∃ S' b, (∀ k, S' k → S k ∨ W.heap.size ≤ k) ∧ RStands S' w' r DB ∧ Only S W w' ∧ e = .returned (.tuple #[.pointer (some ⟨b, 0, none⟩), .int .i64 0]) ∧ W.heap.size ≤ b ∧ ¬ S' b ∧ Jr 57 w' b r Jb) := by
  obtain ⟨_, hsy, hpn, hfu⟩ := begin_sync 70 (by omega) (by omega)
  obtain ⟨Z, DF, c1, c2, c3⟩ := plays_pack 70 (by omega) (by omega)
  exact ⟨Z, DF, Db 70, begin_any, Well.of_sync hsy (by rw [hpn]; simp), c1, c2, c3⟩
/-- The document's side taken up beside the statements' world. -/
theorem JP.start {w1 w2 w5 : World} {wb a p r b : Nat} {S S2 : Nat → Prop} {J K : JS} {D E : DevS} (h : Wd w1 w2 wb a p S J D) (hb : Below w2.heap.size w2 w5) (rs : RStands S2 w5 r E) (rj : Jr 57 w5 b r K) (n2 : ¬ S2 b) (hg : ∀ k, (S2 k ∨ k = b) → w2.heap.size ≤ k) : JP w1 w5 wb a p S J D b r S2 K E :=
  ⟨h.below hb, rs, rj, n2, fun k hk => ⟨fun hs => by have := h.dev.lt k hs; have := hg k hk; omega, by have := h.jr.lt; have := hg k hk; omega, by have := h.lt; have := hg k hk; omega⟩, fun k hk => Nat.le_trans h.bel.size (hg k hk)⟩
/-- What an act reads, wherever it lies. -/
abbrev HeldB (g off : Nat) (A : Act4) (W : World) : Prop := W.cell? ⟨g, off, none⟩ = some (.int .i64 A.op) ∧ W.cell? ⟨g, off + 1, none⟩ = some (.int .i64 A.n) ∧ W.cell? ⟨g, off + 2, none⟩ = some (.int .i64 A.at_) ∧ W.cell? ⟨g, off + 3, none⟩ = some (.slice A.kao A.keep.length A.kcap) ∧ W.cell? ⟨g, off + 4, none⟩ = some (.slice A.bao A.blks.length A.bcap) ∧ W.cell? ⟨g, off + 5, none⟩ = some (.string A.data)
theorem Acts4.held {w0 W : World} {L : List Act4} {g off n cap : Nat} (h : Acts4 w0 (.slice (some ⟨g, off, none⟩) n cap) L) (hW : Below w0.heap.size w0 W) (j : Nat) (hj : j < L.length) : HeldB g (off + j * 6) L[j] W := by
  obtain ⟨g', off', cap', hv, i0, i1, i2, i3, i4, i5⟩ := h.cell hW j hj
  obtain ⟨⟨rfl, rfl⟩, _, _⟩ : (g = g' ∧ off = off') ∧ n = L.length ∧ cap = cap' := by simpa using hv
  exact ⟨i0, i1, i2, i3, i4, i5⟩
theorem used_same {w : World} {a p : Nat} {J : JS} (h : Jr 79 w a p J) : Calls Tryz.prog 20 #[.pointer (some ⟨a, 0, none⟩)] w fun e w' => e = .returned (.int .i64 J.full) ∧ w' = w := (used_any h).mono fun _ _ h => ⟨h.1, h.2.symm⟩
theorem seqP_same {w : World} {a p : Nat} {J : JS} (h : Jr 79 w a p J) : Calls Tryz.prog 17 #[.pointer (some ⟨a, 0, none⟩)] w fun e w' => e = .returned (.int .u64 J.next) ∧ w' = w := (seq_any h).mono fun _ _ h => ⟨h.1, h.2.symm⟩
theorem homeP_same {w : World} {a p : Nat} {J : JS} (h : Jr 79 w a p J) (hl : J.log ≤ 4096) : Calls Tryz.prog 18 #[.pointer (some ⟨a, 0, none⟩)] w fun e w' => e = .returned (.int .i64 J.home) ∧ w' = w := (home_any h hl).mono fun _ _ h => ⟨h.1, h.2.symm⟩
theorem vhomeP_same {w : World} {a p : Nat} {J : JS} (h : Jr 57 w a p J) (hl : J.log ≤ 4096) : Calls Tryz.prog 19 #[.pointer (some ⟨a, 0, none⟩)] w fun e w' => e = .returned (.int .i64 J.home) ∧ w' = w := (vhome_any h hl).mono fun _ _ h => ⟨h.1, h.2.symm⟩
end Go.Proofs.YtepfcaopboenpaaGreat
/- JournalPlays: the walk: after any acts the program's journal and the document's say the same. -/
namespace Go.Proofs.YtepfcaopboenpaaGreat
open Go.RowKit
open Fr (SlW OwnW OwnS SlS)

set_option maxRecDepth 100000 in
set_option maxHeartbeats 4000000 in
theorem plays_walk (v : Value) (L : List Act4) (w : World) (hL : Acts4 w v L) :
    Calls Tryz.prog 3 #[v] w fun e w' => e = .returned (.bool true) ∧ Below w.heap.size w w' := by
  have CS := Lib.hid (shown_any w)
  have CM : Hid (∀ W, Below w.heap.size w W → Calls Tryz.prog 5 #[v] W fun e w' => e = .returned (.bool (small4 L)) ∧ W = w') := fun W hW => small4_any hL hW
  obtain ⟨Z, DF, DB, hbeg, hrun, hnew, hfmt, hopn⟩ := plays_begin
  have CB := Lib.hid hbeg; have HR := Lib.hid hrun
  have CN := Lib.hid hnew; have CF := Lib.hid hfmt; have CO := Lib.hid hopn
  clear hbeg hrun hnew hfmt hopn
  generalize Jb = JB at *
  have HA := Lib.hid hL
  obtain ⟨ao, cap, hv⟩ : ∃ ao cap, v = .slice ao L.length cap := by obtain ⟨_, _, ao, cap, hv, _⟩ := hL; exact ⟨ao, cap, hv⟩
  clear hL
  obtain ⟨n, hn⟩ : ∃ n, L.length = n := ⟨_, rfl⟩
  have HN := Lib.hid hn
  rw [hn] at hv
  clear hn
  subst hv
  by_cases hsm : small4 L = true
  · have hsm' := hsm
    unfold small4 at hsm'
    simp only [decide_eq_true_eq] at hsm'
    obtain ⟨hl30, hfit⟩ := hsm'
    rw [hsm] at CM
    rw [HN.out] at hl30
    have HF := Lib.hid hfit
    clear hsm hfit
    go_enter Tryz.func3, Tryz.ntmps3
    go_wp2_with fail
    refine CS.out.mono ?_
    rintro e w1 ⟨rfl, hb1⟩
    have CM1 := Lib.hid (CM.out _ hb1)
    have HB1 := Lib.hid hb1
    clear hb1 CM CS
    go_wp2_with fail
    refine CM1.out.mono ?_
    rintro e w1' ⟨rfl, rfl⟩
    clear CM1
    go_wp2_with fail
    refine (CB.out _).mono ?_
    rintro e w2 ⟨wb, a, p, S2, rfl, hw2⟩
    have HW2 := Lib.hid hw2; clear hw2 CB
    go_wp2_with fail
    refine (CN.out _).mono ?_
    rintro e w3 ⟨r, rfl, X3, hX3, hr3, hb3⟩
    have CF3 := Lib.hid (CF.out _ _ _ hr3)
    have HX3 := Lib.hid hX3; have HB3 := Lib.hid hb3
    clear hX3 hr3 hb3 CN CF
    go_wp2_with fail
    refine CF3.out.mono ?_
    rintro e w4 ⟨rfl, X4, hX4, hr4, ho4⟩
    have CO4 := Lib.hid (CO.out _ _ _ hr4)
    have HX4 : Hid (∀ k, X4 k → w2.heap.size ≤ k) := fun k hk => by
      rcases hX4 k hk with h1 | h1
      · exact HX3.out k h1
      · have := HB3.out.size; omega
    have HB4 : Hid (Below w2.heap.size w2 w4) := below_only HB3.out ho4 HX3.out
    clear hX4 hr4 ho4 CF3 CO
    go_wp2_with fail
    refine CO4.out.mono ?_
    rintro e w5 ⟨X5, b0, hX5, hr5, ho5, rfl, hb05, hn5, hj5⟩
    have HJ5 : Hid (JP w1 w5 wb a p S2 JB DB b0 r X5 JB DB) := by
      have h4 := HB4.out.size
      refine JP.start HW2.out (below_only HB4.out ho5 HX4.out) hr5 hj5 hn5 (fun k hk => ?_)
      rcases hk with hk | hk
      · rcases hX5 k hk with h1 | h1
        · exact HX4.out k h1
        · omega
      · omega
    clear hX5 hr5 ho5 hb05 hn5 hj5 CO4 HB4 HX4 HB3 HX3 HW2
    go_wp2_with fail
    go_loopw [9, 11, 12, 13, 14, 15] (fun mv iv _ _ _ _ wr => ∃ (k : Nat) (b : Nat), k ≤ n ∧ iv = .int .i64 (k : Int) ∧ mv = .pointer (some ⟨b, 0, none⟩) ∧ Hid (∃ a S S2 J D, JP w1 wr wb a p S J D b r S2 J D ∧ Well (2 + 2 * k) (108 * k) J D)) (fun _ iv _ _ _ _ _ => n - (intOf iv).toNat)
    case atStart => exact ⟨0, b0, Nat.zero_le _, rfl, rfl, ⟨_, _, _, _, _, HJ5.out, HR.out⟩⟩
    case round =>
      clear HJ5 HR
      obtain ⟨k, b, hk, rfl, rfl, HS⟩ := hrel
      by_cases hlt : k < n
      · obtain ⟨a', S, S2, J, D, hjp, hwl⟩ := HS.out
        have hkL : k < L.length := by rw [HN.out]; exact hlt
        have hkz : (k : Int) < (n : Int) := by omega
        obtain ⟨g, off, cap', hv, _⟩ := HA.out.cell (HB1.out.trans (hjp.bel.mono HB1.out.size)) k hkL
        obtain ⟨rfl, hnl, rfl⟩ : ao = some ⟨g, off, none⟩ ∧ n = L.length ∧ cap = cap' := by simpa using hv
        clear hnl hv
        have HH : Hid (∀ W, Below w1.heap.size w1 W → HeldB g (off + k * 6) L[k] W) := fun W hW => HA.out.held (HB1.out.trans (hW.mono HB1.out.size)) k hkL
        have HAO := Lib.hid ((HA.out.1 L[k] (List.getElem_mem hkL)).below HB1.out)
        have HAF := Lib.hid (HF.out L[k] (List.getElem_mem hkL))
        have CD := Lib.hid (hjp.does L[k] HAO.out HAF.out hwl (by omega) (by omega))
        have HWl := Lib.hid (hwl.does (by omega) L[k])
        have hdl : D.disk.length = 70 := hwl.len
        have HOK : Hid (J.Ok D.disk.length) := by show J.Ok _; rw [hdl]; exact hwl.ok
        have HPD : Hid (D.pend.length ≤ 500000) := by show _ ≤ _; have := hwl.pend; omega
        obtain ⟨DC, JC, hcr, _⟩ := hwl.crash (by omega) L[k].keep L[k].at_ L[k].n
        have HCR := Lib.hid hcr
        obtain ⟨k0, k1, k2, k3, k4, k5⟩ := HH.out _ hjp.bel
        clear hwl HS hcr hdl hjp
        generalize L[k] = A at *
        clear hkL
        have hop := pickI_lt A.op 9 (by omega)
        have HP : Hid (∀ W, Calls Tryz.prog 11 #[.int .i64 A.op, .int .i64 9] W fun e w' => e = .returned (.int .i64 (pickI A.op 9)) ∧ W = w') := fun W => pick_any A.op 9 W HAO.out.op0 (by omega)
        have HPn : Hid (∀ W, Calls Tryz.prog 11 #[.int .i64 A.n, .int .i64 60] W fun e w' => e = .returned (.int .i64 (pickI A.n 60)) ∧ W = w') := fun W => pick_any A.n 60 W HAO.out.n0 (by omega)
        obtain ⟨o, ho⟩ : ∃ o, pickI A.op 9 = o := ⟨_, rfl⟩
        have HDo : Hid (doesJ A J D = if o = 6 then J.ckp D else if o = 7 then (0, D.setFuse (pickI A.n 60), J) else if o = 8 then (0, DC, JC) else J.commit D A.wrs) := by
          show doesJ A J D = _
          unfold doesJ
          rw [ho, HCR.out]
          rfl
        rw [ho] at HP hop
        clear ho
        generalize doesJ A J D = R at *
        go_wp2_with fail
        refine CD.out.mono ?_
        rintro e w6 ⟨rfl, a3, S3, hj6⟩
        have HJ6 := Lib.hid hj6
        clear hj6 CD k0 k1 k2 k3 k4 k5
        obtain ⟨k0, k1, k2, k3, k4, k5⟩ := HH.out _ HJ6.out.bel
        go_wp2_with fail
        refine (HP.out _).mono ?_
        rintro e w6' ⟨rfl, rfl⟩
        clear HP
        by_cases o6 : o = 6
        · subst o6
          have e : R = J.ckp D := by rw [HDo.out, if_pos rfl]
          have CK := HJ6.out.ckp HOK.out (by have := HPD.out; omega)
          rw [← e] at CK
          have CK := Lib.hid CK
          clear e HDo HCR HOK
          go_wp2_with fail
          refine CK.out.mono ?_
          rintro e w7 ⟨rfl, S7, hj7⟩
          have HJX := Lib.hid hj7
          clear hj7 CK HJ6 k0 k1 k2 k3 k4 k5
          obtain ⟨er, DR, JR⟩ := R
          simp only at HJX HWl
          have b1 : (er != er) = false := by simp
          have HLg : Hid (JR.log ≤ 4096) := by show _ ≤ _; have := HWl.out.ok.l1; omega
          have c1 := HJX.out.wd.c1
          have e6 := HJX.out.rj.c6; have e7 := HJX.out.rj.c7
          have q1 := Lib.hid fun n => seqP_same (HJX.out.wd.jr.below (Fr.below_drewN (Below.refl _ _) n))
          have q2 := Lib.hid fun n => homeP_same (HJX.out.wd.jr.below (Fr.below_drewN (Below.refl _ _) n)) HLg.out
          have q3 := Lib.hid fun n => vhomeP_same (HJX.out.rj.below (Fr.below_drewN (Below.refl _ _) n)) HLg.out
          have q4 := Lib.hid fun n => used_same (HJX.out.wd.jr.below (Fr.below_drewN (Below.refl _ _) n))
          have b2 : ((JR.next : Int) != (JR.next : Int)) = false := by simp
          have b3 : ((JR.home : Int) != (JR.home : Int)) = false := by simp
          have b4 : ((JR.full : Int) != (JR.full : Int)) = false := by simp
          go_wp2_with fail
          go_quiet ((first | (go_at_call 17; exact Calls.quiet_of_same (q1.out _)) | (go_at_call 18; exact Calls.quiet_of_same (q2.out _)) | (go_at_call 19; exact Calls.quiet_of_same (q3.out _)) | (go_at_call 20; exact Calls.quiet_of_same (q4.out _))))
          have HJN := Lib.hid (HJX.out.below (Fr.below_drewN (Below.refl _ _) nq))
          clear q1 q2 q3 q4 e6 e7 c1 HJX
          go_wp2
          go_roundw
          case rel => exact ⟨k + 1, b, by omega, by go_num, rfl, ⟨a3, S3, _, _, _, HJN.out, by rw [show 2 + 2 * (k + 1) = 2 + 2 * k + 2 by omega, show 108 * (k + 1) = 108 * k + 108 by omega]; exact HWl.out⟩⟩
          case measure => simp [intOf]; omega
        · by_cases o7 : o = 7
          · subst o7
            have e : R = (0, D.setFuse (pickI A.n 60), J) := by rw [HDo.out, if_neg (by omega), if_pos rfl]
            have hq := pickI_lt A.n 60 (by omega)
            generalize pickI A.n 60 = q at *
            have CK : Hid (Calls Tryz.prog 13 #[.pointer (some ⟨r, 0, none⟩), .int .i64 q] w6 fun e w' => e = .returned (.tuple #[]) ∧ ∃ S', JP w1 w' wb a3 p S3 R.2.2 R.2.1 b r S' R.2.2 R.2.1) := by
              rw [e]; rw [e] at HJ6; exact HJ6.out.fuse q (by omega)
            have hR1 : R.1 = 0 := by rw [e]
            clear e HDo HCR HOK o6
            obtain ⟨er, DR, JR⟩ := R
            simp only at hR1 CK HWl HJ6
            subst hR1
            go_wp2_with fail
            refine (HPn.out _).mono ?_
            rintro e w6' ⟨rfl, rfl⟩
            go_wp2_with fail
            refine CK.out.mono ?_
            rintro e w7 ⟨rfl, S7, hj7⟩
            have HJX := Lib.hid hj7
            clear hj7 CK HJ6 k0 k1 k2 k3 k4 k5
            have HLg : Hid (JR.log ≤ 4096) := by show _ ≤ _; have := HWl.out.ok.l1; omega
            have c1 := HJX.out.wd.c1
            have e6 := HJX.out.rj.c6; have e7 := HJX.out.rj.c7
            have q1 := Lib.hid fun n => seqP_same (HJX.out.wd.jr.below (Fr.below_drewN (Below.refl _ _) n))
            have q2 := Lib.hid fun n => homeP_same (HJX.out.wd.jr.below (Fr.below_drewN (Below.refl _ _) n)) HLg.out
            have q3 := Lib.hid fun n => vhomeP_same (HJX.out.rj.below (Fr.below_drewN (Below.refl _ _) n)) HLg.out
            have q4 := Lib.hid fun n => used_same (HJX.out.wd.jr.below (Fr.below_drewN (Below.refl _ _) n))
            have b2 : ((JR.next : Int) != (JR.next : Int)) = false := by simp
            have b3 : ((JR.home : Int) != (JR.home : Int)) = false := by simp
            have b4 : ((JR.full : Int) != (JR.full : Int)) = false := by simp
            go_wp2_with fail
            go_quiet ((first | (go_at_call 17; exact Calls.quiet_of_same (q1.out _)) | (go_at_call 18; exact Calls.quiet_of_same (q2.out _)) | (go_at_call 19; exact Calls.quiet_of_same (q3.out _)) | (go_at_call 20; exact Calls.quiet_of_same (q4.out _))))
            have HJN := Lib.hid (HJX.out.below (Fr.below_drewN (Below.refl _ _) nq))
            clear q1 q2 q3 q4 e6 e7 c1 HJX
            go_wp2
            go_roundw
            case rel => exact ⟨k + 1, b, by omega, by go_num, rfl, ⟨a3, S3, _, _, _, HJN.out, by rw [show 2 + 2 * (k + 1) = 2 + 2 * k + 2 by omega, show 108 * (k + 1) = 108 * k + 108 by omega]; exact HWl.out⟩⟩
            case measure => simp [intOf]; omega
          · by_cases o8 : o = 8
            · subst o8
              have e : R = (0, DC, JC) := by rw [HDo.out, if_neg (by omega), if_neg (by omega), if_pos rfl]
              subst e
              have CC := Lib.hid ((HJ6.out.below (Below.refl _ _).drew).crash A HAO.out.keeps HAF.out.2.1 (by have := HPD.out; omega))
              have hR0 : (0 : Int) = 0 := rfl
              clear HDo HOK o6 o7
              go_wp2_with fail
              go_region_held3 (fun W : World => W.cell? ⟨g, off + k * 6 + 1, none⟩ = some (.int .i64 A.n) ∧ W.cell? ⟨g, off + k * 6 + 2, none⟩ = some (.int .i64 A.at_) ∧ W.cell? ⟨g, off + k * 6 + 3, none⟩ = some (.slice A.kao A.keep.length A.kcap))
                (first | exact ⟨k1, k2, k3⟩ | assumption)
                (first | (go_at_call 14; refine CC.out.mono ?_; rintro e w7 ⟨rfl, S7, hj7⟩; have hh7 := HH.out _ hj7.bel; have hk7 := (⟨hh7.2.1, hh7.2.2.1, hh7.2.2.2.1⟩ : w7.cell? ⟨g, off + k * 6 + 1, none⟩ = some (.int .i64 A.n) ∧ w7.cell? ⟨g, off + k * 6 + 2, none⟩ = some (.int .i64 A.at_) ∧ w7.cell? ⟨g, off + k * 6 + 3, none⟩ = some (.slice A.kao A.keep.length A.kcap))))
              have CO8 := Lib.hid (hj7.opn (by simp [DevS.crash]) HCR.out)
              clear hj7 hh7 hk7 CC HJ6 k0 k1 k2 k3 k4 k5
              go_wp2_with fail
              refine CO8.out.mono ?_
              rintro e w8 ⟨b8, rfl, S8, hj8⟩
              have HJX := Lib.hid hj8
              clear hj8 CO8
              try simp only at HWl
              try simp only at HJX
              clear HCR
              have HLg : Hid (JC.log ≤ 4096) := by show _ ≤ _; have := HWl.out.ok.l1; omega
              have c1 := HJX.out.wd.c1
              have e6 := HJX.out.rj.c6; have e7 := HJX.out.rj.c7
              have q1 := Lib.hid fun n => seqP_same (HJX.out.wd.jr.below (Fr.below_drewN (Below.refl _ _) n))
              have q2 := Lib.hid fun n => homeP_same (HJX.out.wd.jr.below (Fr.below_drewN (Below.refl _ _) n)) HLg.out
              have q3 := Lib.hid fun n => vhomeP_same (HJX.out.rj.below (Fr.below_drewN (Below.refl _ _) n)) HLg.out
              have q4 := Lib.hid fun n => used_same (HJX.out.wd.jr.below (Fr.below_drewN (Below.refl _ _) n))
              have b2 : ((JC.next : Int) != (JC.next : Int)) = false := by simp
              have b3 : ((JC.home : Int) != (JC.home : Int)) = false := by simp
              have b4 : ((JC.full : Int) != (JC.full : Int)) = false := by simp
              go_wp2_with fail
              go_quiet ((first | (go_at_call 17; exact Calls.quiet_of_same (q1.out _)) | (go_at_call 18; exact Calls.quiet_of_same (q2.out _)) | (go_at_call 19; exact Calls.quiet_of_same (q3.out _)) | (go_at_call 20; exact Calls.quiet_of_same (q4.out _))))
              have HJN := Lib.hid (HJX.out.below (Fr.below_drewN (Below.refl _ _) nq))
              clear q1 q2 q3 q4 e6 e7 c1 HJX
              go_wp2
              go_roundw
              case rel => exact ⟨k + 1, b8, by omega, by go_num, rfl, ⟨a3, S3, _, _, _, HJN.out, by rw [show 2 + 2 * (k + 1) = 2 + 2 * k + 2 by omega, show 108 * (k + 1) = 108 * k + 108 by omega]; exact HWl.out⟩⟩
              case measure => simp [intOf]; omega
            · have e : R = J.commit D A.wrs := by rw [HDo.out, if_neg o6, if_neg o7, if_neg o8]
              have b6 : (o == 6) = false := by simpa using o6
              have b7 : (o == 7) = false := by simpa using o7
              have b8 : (o == 8) = false := by simpa using o8
              have HWr : Hid (Calls Tryz.prog 16 #[.agg #[.int .i64 A.op, .int .i64 A.n, .int .i64 A.at_, .slice A.kao A.keep.length A.kcap, .slice A.bao A.blks.length A.bcap, .string A.data]] w6 fun e w' => ∃ u, e = .returned u ∧ OwnW w6.heap.size w' u A.wrs ∧ Below w6.heap.size w6 w') :=
                writes_any A w6 HAF.out.1 HAF.out.2.2 HAO.out.bin (HAO.out.blks.below HJ6.out.bel)
              have CC : Hid (∀ u W, Below w6.heap.size w6 W → OwnW w6.heap.size W u A.wrs → Calls Tryz.prog 15 #[.pointer (some ⟨b, 0, none⟩), u] W fun e w' => e = .returned (.int .i64 R.1) ∧ ∃ S', JP w1 w' wb a3 p S3 R.2.2 R.2.1 b r S' R.2.2 R.2.1) := fun u W hW hO => by
                have := HJ6.out.commit hW hO HOK.out (by have := HPD.out; omega) (by have := A.wrs_len; omega) A.wrs_size
                rw [← e] at this
                exact this
              clear e HDo HCR HOK o6 o7 o8
              go_wp2_with fail
              refine HWr.out.mono ?_
              rintro e w7 ⟨u, rfl, ho7, hb7⟩
              have CC7 := Lib.hid (CC.out u w7 hb7 ho7)
              clear HWr CC ho7 hb7 k0 k1 k2 k3 k4 k5
              go_wp2_with fail
              refine CC7.out.mono ?_
              rintro e w8 ⟨rfl, S8, hj8⟩
              have HJX := Lib.hid hj8
              clear hj8 CC7 HJ6
              obtain ⟨er, DR, JR⟩ := R
              simp only at HJX HWl
              have b1 : (er != er) = false := by simp
              have HLg : Hid (JR.log ≤ 4096) := by show _ ≤ _; have := HWl.out.ok.l1; omega
              have c1 := HJX.out.wd.c1
              have e6 := HJX.out.rj.c6; have e7 := HJX.out.rj.c7
              have q1 := Lib.hid fun n => seqP_same (HJX.out.wd.jr.below (Fr.below_drewN (Below.refl _ _) n))
              have q2 := Lib.hid fun n => homeP_same (HJX.out.wd.jr.below (Fr.below_drewN (Below.refl _ _) n)) HLg.out
              have q3 := Lib.hid fun n => vhomeP_same (HJX.out.rj.below (Fr.below_drewN (Below.refl _ _) n)) HLg.out
              have q4 := Lib.hid fun n => used_same (HJX.out.wd.jr.below (Fr.below_drewN (Below.refl _ _) n))
              have b2 : ((JR.next : Int) != (JR.next : Int)) = false := by simp
              have b3 : ((JR.home : Int) != (JR.home : Int)) = false := by simp
              have b4 : ((JR.full : Int) != (JR.full : Int)) = false := by simp
              go_wp2_with fail
              go_quiet ((first | (go_at_call 17; exact Calls.quiet_of_same (q1.out _)) | (go_at_call 18; exact Calls.quiet_of_same (q2.out _)) | (go_at_call 19; exact Calls.quiet_of_same (q3.out _)) | (go_at_call 20; exact Calls.quiet_of_same (q4.out _))))
              have HJN := Lib.hid (HJX.out.below (Fr.below_drewN (Below.refl _ _) nq))
              clear q1 q2 q3 q4 e6 e7 c1 HJX
              go_wp2
              go_roundw
              case rel => exact ⟨k + 1, b, by omega, by go_num, rfl, ⟨a3, S3, _, _, _, HJN.out, by rw [show 2 + 2 * (k + 1) = 2 + 2 * k + 2 by omega, show 108 * (k + 1) = 108 * k + 108 by omega]; exact HWl.out⟩⟩
              case measure => simp [intOf]; omega
      · obtain ⟨a', S, S2, J, D, hjp, hwl⟩ := HS.out
        have hkz : ¬ (k : Int) < (n : Int) := by omega
        have hpd : D.pend.length ≤ 500000 := by have := hwl.pend; omega
        have hdl : D.disk.length ≤ 5000 := by rw [hwl.len]; omega
        have HJ := Lib.hid hjp
        obtain ⟨v2, ao2, c2, hv2, hs2, hp2⟩ := hjp.rows
        have hrl : r < wr.heap.size := World.block_lt_of_cell? wr _ hv2
        have HS2 := Lib.hid hs2
        have c0 := hjp.wd.c0
        have hwl' := hjp.wd.lt
        clear hjp hwl HS hs2
        have HK : Hid (∀ W, Below wr.heap.size wr W → W.cell? ⟨wb, 0, none⟩ = some (.pointer (some ⟨p, 0, none⟩)) ∧ W.cell? ⟨r, 0, none⟩ = some v2 ∧ W.cell? ⟨r, 1, none⟩ = some (.slice ao2 D.pend.length c2)) := fun W hW =>
          ⟨(hW.cell (p := ⟨wb, 0, none⟩) hwl').trans c0, (hW.cell (p := ⟨r, 0, none⟩) hrl).trans hv2, (hW.cell (p := ⟨r, 1, none⟩) hrl).trans hp2⟩
        have CD : Hid (∀ W, Below wr.heap.size wr W → Calls Tryz.prog 22 #[.pointer (some ⟨p, 0, none⟩)] W fun e w' => ∃ v, e = .returned v ∧ SlS w' v D.disk ∧ Below W.heap.size W w') := fun W hW => (HJ.out.below hW).disk
        have CPe : Hid (∀ W, Below wr.heap.size wr W → Calls Tryz.prog 23 #[.pointer (some ⟨p, 0, none⟩)] W fun e w' => ∃ ao c, e = .returned (.slice ao D.pend.length c) ∧ Below W.heap.size W w') := fun W hW => (HJ.out.below hW).pending (by omega)
        have CSm : Hid (∀ W v1, SlS W v1 D.disk → SlS W v2 D.disk → Calls Tryz.prog 21 #[v1, v2] W fun e w' => e = .returned (.bool true) ∧ Below W.heap.size W w') := fun W v1 h1 h2 =>
          (same_dec D.disk D.disk v1 v2 W hdl rfl h1 h2).mono fun e w' ⟨he, hb⟩ => ⟨by rw [he]; simp, hb⟩
        have HFin : Hid (∀ W, Below wr.heap.size wr W → Below w.heap.size w W) := fun W hW => HB1.out.trans ((HJ.out.bel.trans (hW.mono HJ.out.bel.size)).mono HB1.out.size)
        have bl : ((D.pend.length : Int) == (D.pend.length : Int)) = true := by simp
        clear HJ
        go_wp2_with fail
        go_region_held3 (fun W : World => W.cell? ⟨wb, 0, none⟩ = some (.pointer (some ⟨p, 0, none⟩)) ∧ W.cell? ⟨r, 0, none⟩ = some v2 ∧ W.cell? ⟨r, 1, none⟩ = some (.slice ao2 D.pend.length c2))
          (first | exact ⟨c0, hv2, hp2⟩ | assumption)
          (first
            | (go_at_call 22; refine (CD.out _ ((Below.refl _ _).drew)).mono ?_; rintro e w7 ⟨v1, rfl, hs7, hb7'⟩; have hb7 : Below wr.heap.size wr w7 := Fr.below_predrew hb7'; have hh7 := HK.out _ hb7; have hr7 : SlS w7 v2 D.disk := HS2.out.below hb7)
            | (go_at_call 21; (with_reducible refine (CSm.out _ _ hs7 hr7).mono ?_); rintro e w8 ⟨rfl, hb8'⟩; have hb8 : Below wr.heap.size wr w8 := hb7.trans (hb8'.mono hb7.size); have hh8 := HK.out _ hb8)
            | (go_at_call 23; (with_reducible refine (CPe.out _ hb8).mono ?_); rintro e w9 ⟨ao9, c9, rfl, hb9'⟩; have hb9 : Below wr.heap.size wr w9 := hb8.trans (hb9'.mono hb8.size); have hh9 := HK.out _ hb9))
        all_goals
          have HFW := Lib.hid (HFin.out _ hb9)
          go_wp2
          go_ret
          exact ⟨rfl, HFW.out⟩
  · have hsm' : small4 L = false := by simpa using hsm
    rw [hsm'] at CM
    clear hsm HA HR CB CN CF CO
    go_enter Tryz.func3, Tryz.ntmps3
    go_wp2_with fail
    refine CS.out.mono ?_
    rintro e w1 ⟨rfl, hb1⟩
    have CM1 := Lib.hid (CM.out _ hb1)
    have HB1 := Lib.hid hb1
    clear hb1 CM CS
    go_wp2_with fail
    refine CM1.out.mono ?_
    rintro e w1' ⟨rfl, rfl⟩
    clear CM1
    go_wp2
    go_ret
    exact ⟨rfl, HB1.out⟩
end Go.Proofs.YtepfcaopboenpaaGreat

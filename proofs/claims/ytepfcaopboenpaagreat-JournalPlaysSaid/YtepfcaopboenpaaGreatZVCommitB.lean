/- The document's own Commit: what it answers and leaves behind, for every journal over every device: the same. -/
import Derived.Test.YtepfcaopboenpaaGreatZLBoth
import Derived.Test.YtepfcaopboenpaaGreatZLHome
import Derived.Test.YtepfcaopboenpaaGreatZJCommit
import Derived.Test.YtepfcaopboenpaaGreatZFPackR

namespace Go.Proofs.YtepfcaopboenpaaGreat
open Go.RowKit
open Fr (SlW SlS WritesAt StrsAt OwnS)

section
variable {S S1 T : Nat → Prop} {w0 w w1 w2 w' : World} {a r : Nat} {J J1 J2 : JS} {D D1 D2 : DevS} {v : Value} {L : List (Int × ByteArray)}
/-- Behind a call that may write on the journal and its device: and what else stays. -/
theorem RJ.all (h : RJ w0 w S a r J D T) (hl : RJLeaves S w w1 a r D1 J1) : ∃ S', RJ w0 w1 S' a r J1 D1 T ∧ ∀ g, g < w.heap.size → ¬ S g → g ≠ a → ¬ S' g ∧ w1.heap[g]? = w.heap[g]? ∧ g < w1.heap.size := by
  obtain ⟨S', hS', hst, hjr, ho⟩ := hl
  have hla := h.jr.lt
  refine ⟨S', ⟨hjr, hst, fun hk => ?_, fun k hk => ?_, h.only.trans ho (fun i hi hs => ?_)⟩, fun g hg hs hga => ⟨fun hk => ?_, ho.block g hg (fun hh => ?_), Nat.lt_of_lt_of_le hg ho.size⟩⟩
  · rcases hS' a hk with h1 | h1
    · exact h.na h1
    · omega
  · rcases hS' k hk with h1 | h1
    · exact h.own k h1
    · exact .inr (Nat.le_trans h.only.size h1)
  · rcases hs with hs | hs
    · rcases h.own i hs with h1 | h1
      · exact .inl h1
      · omega
    · exact .inr hs
  · rcases hS' g hk with h1 | h1
    · exact hs h1
    · omega
  · rcases hh with h1 | h1
    · exact hs h1
    · exact hga h1
theorem cells_heapO {g off : Nat} {L : List (Int × ByteArray)} (h : WritesAt w g off L) (he : w'.heap[g]? = w.heap[g]?) : WritesAt w' g off L := fun j hj =>
  ⟨(World.cell?_of_block (w := w) (a := ⟨g, off + j * 2, none⟩) he).trans (h j hj).1, (World.cell?_of_block (w := w) (a := ⟨g, off + j * 2 + 1, none⟩) he).trans (h j hj).2⟩
theorem set_ne {a b i : Nat} {v : Value} (h : b ≠ a) : (w.setCell ⟨a, i, none⟩ v).heap[b]? = w.heap[b]? := by
  simp [World.setCell, Array.getElem?_modify, Ne.symm h]
theorem set_size {a : Addr} {v : Value} : (w.setCell a v).heap.size = w.heap.size := by simp [World.setCell]
variable {t : ByteArray} {ds : List ByteArray}
theorem addF_err (h : (J.addF D1 t ds).1 ≠ 0) : (J.addF D1 t ds).2.2 = J := by
  unfold JS.addF at *
  simp only at *
  split
  · rfl
  · rename_i h1
    rw [if_neg h1] at h
    split
    · rfl
    · rename_i h2; rw [if_neg h2] at h; exact absurd rfl h
theorem addF_good (h : (J.addF D1 t ds).1 = 0) : (J.addF D1 t ds).2.2 = J.grow (ds.length + 1) := by
  unfold JS.addF at *
  simp only at *
  split
  · rename_i h1; rw [if_pos h1] at h; exact absurd h h1
  · rename_i h1
    rw [if_neg h1] at h
    split
    · rename_i h2; rw [if_pos h2] at h; exact absurd h h2
    · rfl
theorem chkL_code (J : JS) (n : Nat) (l : List (Int × ByteArray)) : J.chkL n l = 0 ∨ J.chkL n l = 2 ∨ J.chkL n l = 3 := by
  induction l with
  | nil => exact .inl rfl
  | cons x r ih =>
    unfold JS.chkL
    split
    · exact ih
    · unfold JS.chk1
      split
      · exact .inr (.inl rfl)
      · split
        · exact .inr (.inr rfl)
        · exact .inl rfl
theorem pk_code (s : Nat) (l : List (Int × ByteArray)) (h1 : 1 ≤ l.length) (h2 : l.length ≤ 48) : (Fr.pk s l).2 ≠ 6 := by
  have hc : ∀ m : List (Int × ByteArray), Fr.chkL m = 0 ∨ Fr.chkL m = 2 ∨ Fr.chkL m = 3 := by
    intro m
    induction m with
    | nil => exact .inl rfl
    | cons x r ih =>
      unfold Fr.chkL
      split
      · exact ih
      · unfold Fr.chk1
        split
        · exact .inr (.inl rfl)
        · split
          · exact .inr (.inr rfl)
          · exact .inl rfl
  unfold Fr.pk
  split
  · show (0 : Nat) ≠ 6; omega
  · show Fr.chk l ≠ 6
    unfold Fr.chk
    rw [if_neg (by omega)]
    rcases hc l with h | h | h <;> omega

set_option maxRecDepth 100000 in
set_option maxHeartbeats 1000000 in
theorem vcommit_many (lao : Option Addr) (n lc : Nat) (hj : Jr 57 w a r J) (hd : RStands S w r D) (h : n = 0 ∨ 48 < n) (hn : n ≤ 1000) :
    Calls Tryz.prog 15 #[.pointer (some ⟨a, 0, none⟩), .slice lao n lc] w fun e w' => e = .returned (.int .i64 6) ∧ RJLeaves S w w' a r D J := by
  have CP := Lib.hid fun W => Fr.rpack_many J.next lao n lc W h hn
  have c6 := hj.c6
  have HF : Hid (∀ w', Below w.heap.size w w' → RJLeaves S w w' a r D J) := fun w' hb => ⟨S, fun _ => .inl, hd.below hb, hj.below hb, Only.of_below _ hb (Nat.le_refl _)⟩
  clear hj hd h
  go_enter Tryz.func15, Tryz.ntmps15
  go_wp2_with fail
  refine (CP.out _).mono ?_
  rintro e w1 ⟨rfl, hb1⟩
  have HF2 := Lib.hid (HF.out _ hb1)
  clear hb1 CP
  go_wp2
  go_ret
  exact ⟨rfl, HF2.out⟩

set_option maxRecDepth 100000 in
set_option maxHeartbeats 4000000 in
theorem vcommit_bad (b off lc : Nat) (hj : Jr 57 w a r J) (hd : RStands S w r D) (ok : J.Ok D.disk.length) (h1 : 1 ≤ L.length) (h2 : L.length ≤ 48) (hs : ∀ x ∈ L, x.2.size ≤ maxLen) (h : SlW w (.slice (some ⟨b, off, none⟩) L.length lc) L) (hbl : b < w.heap.size) (hat : WritesAt w b off L) (hc : J.chkL D.disk.length L ≠ 0) :
    Calls Tryz.prog 15 #[.pointer (some ⟨a, 0, none⟩), .slice (some ⟨b, off, none⟩) L.length lc] w fun e w' => e = .returned (.int .i64 ((J.chkL D.disk.length L : Nat) : Int)) ∧ RJLeaves S w w' a r D J := by
  have CP := Lib.hid (Fr.rpack_any J.next L _ w ok.n64 (by omega) hs h)
  have hn6 := pk_code J.next L h1 h2
  have c6 := hj.c6
  have HF : Hid (∀ w', Below w.heap.size w w' → RJLeaves S w w' a r D J) := fun w' hb => ⟨S, fun _ => .inl, hd.below hb, hj.below hb, Only.of_below _ hb (Nat.le_refl _)⟩
  obtain ⟨qd, lcap, hcd⟩ : ∃ qd lcap, Hid (∀ W, Below w.heap.size w W → W.cell? ⟨r, 0, none⟩ = some (.slice (some ⟨qd, 0, none⟩) D.disk.length lcap)) := by
    obtain ⟨qd, lcap, pv, href⟩ := hd
    exact ⟨qd, lcap, fun W hW => (href.kept (Only.of_below (fun _ => False) hW (Nat.le_refl _)) (fun _ _ f => f)).c0⟩
  have hdn := hd.ok.few
  have hl1 := ok.l1
  have CH : Hid (∀ W, Below w.heap.size w W → Calls Tryz.prog 19 #[.pointer (some ⟨a, 0, none⟩)] W fun e w' => e = .returned (.int .i64 J.home) ∧ W = w') := fun W hW => vhome_at (hj.below hW) (by omega)
  have HK : Hid (∀ W, Below w.heap.size w W → W.cell? ⟨a, 0, none⟩ = some (.pointer (some ⟨r, 0, none⟩))) := fun W hW => (hj.below hW).c0
  have HC := Lib.hid hat
  have HBAD := Lib.hid hc
  have HS := Lib.hid hs
  have hpc : ((((Fr.pk J.next L).2 : Nat) : Int) == 6) = false := beq_eq_false_iff_ne.2 (by omega)
  clear hj hd h hat hc ok hs hn6
  generalize Fr.pk J.next L = PK at *
  obtain ⟨PL, pc⟩ := PK
  simp only at CP hpc
  obtain ⟨dn, hdn'⟩ : ∃ m, D.disk.length = m := ⟨_, rfl⟩
  rw [hdn'] at hcd hdn hl1 HBAD ⊢
  clear hdn'
  obtain ⟨n, hn⟩ : ∃ n, L.length = n := ⟨_, rfl⟩
  rw [hn] at h1 h2 CP ⊢
  have HN := Lib.hid hn; clear hn
  go_enter Tryz.func15, Tryz.ntmps15
  go_wp2_with fail
  refine CP.out.mono ?_
  rintro e w1 ⟨u, rfl, _, hb1⟩
  have HB1 := Lib.hid hb1; clear hb1 CP
  go_wp2_with fail
  go_loopw [7] (fun iv wr => ∃ k : Nat, k ≤ n ∧ iv = .int .i64 (k : Int) ∧ Hid (J.chkL dn L = J.chkL dn (L.drop k)) ∧ Hid (Below w.heap.size w wr)) (fun iv _ => n - (intOf iv).toNat)
  case atStart => exact ⟨0, Nat.zero_le _, rfl, rfl, HB1⟩
  case round =>
    clear HB1
    obtain ⟨k, hk, rfl, HE, HB⟩ := hrel
    by_cases hlt : k < n
    · have hkL : k < L.length := by rw [HN.out]; exact hlt
      have hkz : (k : Int) < (n : Int) := by omega
      obtain ⟨z0, x1⟩ := HC.out k hkL
      have x0 := (HB.out.cell (p := ⟨b, off + k * 2, none⟩) hbl).trans z0
      have HX1 : Hid (∀ W, Below w.heap.size w W → W.cell? ⟨b, off + k * 2 + 1, none⟩ = some (.string L[k].2)) := fun W hW => (hW.cell (p := ⟨b, off + k * 2 + 1, none⟩) hbl).trans x1
      have c0 := HK.out _ HB.out
      have dc := hcd.out _ HB.out
      have hsz := HS.out L[k] (List.getElem_mem hkL)
      unfold maxLen at hsz
      clear x1 z0
      by_cases hx : J.chk1 dn L[k] = 0
      · have HE2 : Hid (J.chkL dn L = J.chkL dn (L.drop (k + 1))) := by show _ = _; rw [HE.out, J.chkL_drop dn L k hkL hx]
        obtain ⟨y0, y1, y2⟩ := (J.chk1_ok dn _).1 hx
        clear hx HE
        generalize L[k] = x at *
        clear hkL
        obtain ⟨xb, xd⟩ := x
        simp only at x0 HX1 y0 y1 y2 hsz
        have d1 : decide (xb < (J.home : Int)) = false := decide_eq_false (by omega)
        have d2 : decide ((dn : Int) ≤ xb) = false := decide_eq_false (by omega)
        have q1 : ¬ xb < (J.home : Int) := by omega
        have q2 : ¬ (dn : Int) ≤ xb := by omega
        have hne : ((xd.size : Int) != 256) = false := by simp; omega
        clear y0 y1
        generalize J.home = ho at *
        go_wp2_with fail
        go_quiet ((go_at_call 19; refine Calls.quiet_of_same (((CH.out _ ?_).mono (fun e w' h => ⟨h.1, h.2.symm⟩))); exact ⟨HB.out.os, HB.out.tape, HB.out.output, HB.out.size, HB.out.block⟩))
        have HBn : Hid (Below w.heap.size w (wr.drewN nq)) := Fr.below_drewN HB.out _
        have x1 := HX1.out _ HBn.out
        go_wp2
        go_roundw
        case rel => exact ⟨k + 1, by omega, by go_num, HE2, HBn⟩
        case measure => simp [intOf]; omega
      · have HE2 := Lib.hid (show J.chkL dn L = J.chk1 dn L[k] by rw [HE.out, J.chkL_at dn L k hkL hx])
        clear HE
        generalize L[k] = x at *
        clear hkL
        obtain ⟨xb, xd⟩ := x
        simp only at x0 HX1 hsz
        unfold JS.chk1 at hx HE2
        simp only at hx HE2
        by_cases hr : xb < (J.home : Int) ∨ (dn : Int) ≤ xb
        · rw [if_pos hr] at HE2
          clear hx
          by_cases q1 : xb < (J.home : Int)
          · have d1 : decide (xb < (J.home : Int)) = true := decide_eq_true q1
            generalize J.home = ho at *
            go_wp2_with fail
            go_quiet ((go_at_call 19; refine Calls.quiet_of_same (((CH.out _ ?_).mono (fun e w' h => ⟨h.1, h.2.symm⟩))); exact ⟨HB.out.os, HB.out.tape, HB.out.output, HB.out.size, HB.out.block⟩))
            have HF2 := Lib.hid (HF.out _ (Fr.below_drewN HB.out nq))
            go_wp2
            go_ret
            exact ⟨by rw [HE2.out]; rfl, HF2.out⟩
          · have q2 : (dn : Int) ≤ xb := by omega
            have d1 : decide (xb < (J.home : Int)) = false := decide_eq_false q1
            have d2 : decide ((dn : Int) ≤ xb) = true := decide_eq_true q2
            generalize J.home = ho at *
            go_wp2_with fail
            go_quiet ((go_at_call 19; refine Calls.quiet_of_same (((CH.out _ ?_).mono (fun e w' h => ⟨h.1, h.2.symm⟩))); exact ⟨HB.out.os, HB.out.tape, HB.out.output, HB.out.size, HB.out.block⟩))
            have HF2 := Lib.hid (HF.out _ (Fr.below_drewN HB.out nq))
            go_wp2
            go_ret
            exact ⟨by rw [HE2.out]; rfl, HF2.out⟩
        · rw [if_neg hr] at hx HE2
          by_cases hz : xd.size ≠ 256
          · rw [if_pos hz] at HE2
            have hne : ((xd.size : Int) != 256) = true := by simp; omega
            have d1 : decide (xb < (J.home : Int)) = false := decide_eq_false (by omega)
            have d2 : decide ((dn : Int) ≤ xb) = false := decide_eq_false (by omega)
            have q1 : ¬ xb < (J.home : Int) := by omega
            have q2 : ¬ (dn : Int) ≤ xb := by omega
            clear hx hz hr
            generalize J.home = ho at *
            go_wp2_with fail
            go_quiet ((go_at_call 19; refine Calls.quiet_of_same (((CH.out _ ?_).mono (fun e w' h => ⟨h.1, h.2.symm⟩))); exact ⟨HB.out.os, HB.out.tape, HB.out.output, HB.out.size, HB.out.block⟩))
            have HBn : Hid (Below w.heap.size w (wr.drewN nq)) := Fr.below_drewN HB.out _
            have x1 := HX1.out _ HBn.out
            have HF2 := Lib.hid (HF.out _ HBn.out)
            go_wp2
            go_ret
            exact ⟨by rw [HE2.out]; rfl, HF2.out⟩
          · rw [if_neg hz] at hx; exact absurd rfl hx
    · exfalso
      apply HBAD.out
      rw [HE.out, List.drop_of_length_le (by rw [HN.out]; omega)]; rfl
end
end Go.Proofs.YtepfcaopboenpaaGreat
/- The document's own Commit of what may be committed: what it answers and leaves behind. -/
namespace Go.Proofs.YtepfcaopboenpaaGreat
open Go.RowKit
open Fr (SlW SlS WritesAt StrsAt OwnS)

section
variable {S : Nat → Prop} {w w1 w' : World} {a r : Nat} {J : JS} {D : DevS} {L : List (Int × ByteArray)}
set_option maxRecDepth 100000 in
set_option maxHeartbeats 4000000 in
theorem vcommit_good (b off lc : Nat) (hj : Jr 57 w a r J) (hd : RStands S w r D) (ha : ¬ S a) (ok : J.Ok D.disk.length) (hp : D.pend.length ≤ 700000) (h1 : 1 ≤ L.length) (h2 : L.length ≤ 48) (hw : ∀ x ∈ L, J.WrOk D.disk.length x) (hs : ∀ x ∈ L, x.2.size ≤ maxLen) (h : SlW w (.slice (some ⟨b, off, none⟩) L.length lc) L) (hbl : b < w.heap.size) (hat : WritesAt w b off L) (hsb : ¬ S b) (hab : b ≠ a) :
    Calls Tryz.prog 15 #[.pointer (some ⟨a, 0, none⟩), .slice (some ⟨b, off, none⟩) L.length lc] w fun e w' => e = .returned (.int .i64 (J.commit D L).1) ∧ RJLeaves S w w' a r (J.commit D L).2.1 (J.commit D L).2.2 := by
  have hdn := hd.ok.few
  have HPk : Hid (Fr.pk J.next L = (Fr.packL J.next L, 0)) := by
    show _ = _
    unfold Fr.pk
    rw [if_pos ((Fr.chk_ok L).2 ⟨h1, h2, fun x hx => JS.wrok_frame hdn (hw x hx)⟩)]
  have CP := Fr.rpack_any J.next L _ w ok.n64 (by omega) hs h
  rw [HPk.out] at CP
  have CP := Lib.hid CP
  have HCm0 : Hid (J.commit D L = (fun c : Int × DevS × JS => if c.1 ≠ 0 then c else if (c.2.2.addF c.2.1 (Fr.bs (Fr.topL J.next L)) (L.map (·.2))).1 ≠ 0 then c.2.2.addF c.2.1 (Fr.bs (Fr.topL J.next L)) (L.map (·.2)) else
      (((c.2.2.addF c.2.1 (Fr.bs (Fr.topL J.next L)) (L.map (·.2))).2.1.wrs L).1, ((c.2.2.addF c.2.1 (Fr.bs (Fr.topL J.next L)) (L.map (·.2))).2.1.wrs L).2, (c.2.2.addF c.2.1 (Fr.bs (Fr.topL J.next L)) (L.map (·.2))).2.2)) (if J.left < L.length + 2 then J.ckp D else (0, D, J))) := by
    show _ = _
    unfold JS.commit
    rw [if_neg (by rw [ne_eq, Classical.not_not]; exact (J.chk_ok _ L).2 ⟨h1, h2, hw⟩)]
  have c6 := hj.c6
  have HJ := Lib.hid (RJ.start hj hd ha)
  obtain ⟨qd, lcap, hcd⟩ : ∃ qd lcap, Hid (∀ W, Below w.heap.size w W → W.cell? ⟨r, 0, none⟩ = some (.slice (some ⟨qd, 0, none⟩) D.disk.length lcap)) := by
    obtain ⟨qd, lcap, pv, href⟩ := hd
    exact ⟨qd, lcap, fun W hW => (href.kept (Only.of_below (fun _ => False) hW (Nat.le_refl _)) (fun _ _ f => f)).c0⟩
  have hl1 := ok.l1; have hl0 := ok.l0; have hfu := ok.fu
  have CH : Hid (∀ W, Below w.heap.size w W → Calls Tryz.prog 19 #[.pointer (some ⟨a, 0, none⟩)] W fun e w' => e = .returned (.int .i64 J.home) ∧ W = w') := fun W hW => vhome_at (hj.below hW) (by omega)
  have HK : Hid (∀ W, Below w.heap.size w W → W.cell? ⟨a, 0, none⟩ = some (.pointer (some ⟨r, 0, none⟩)) ∧ W.cell? ⟨a, 3, none⟩ = some (.int .i64 (J.log : Int)) ∧ W.cell? ⟨a, 7, none⟩ = some (.int .i64 (J.full : Int))) := fun W hW => ⟨(hj.below hW).c0, (hj.below hW).c3, (hj.below hW).c7⟩
  have HC := Lib.hid hat
  have HW := Lib.hid hw
  have HS := Lib.hid hs
  have HOK := Lib.hid ok
  have HSB := Lib.hid hsb
  have HLa : Hid (¬ S (w.heap.size)) := fun hk => by have := hd.lt _ hk; omega
  have HSl : Hid (∀ k, S k → k < w.heap.size) := hd.lt
  have HAl : Hid (a < w.heap.size) := hj.lt
  clear hj hd h hat hs hw ok hsb HPk ha
  obtain ⟨dn, hdn'⟩ : ∃ m, D.disk.length = m := ⟨_, rfl⟩
  rw [hdn'] at hcd hdn hl1 HW
  have HDN := Lib.hid hdn'
  clear hdn'
  obtain ⟨n, hn⟩ : ∃ n, L.length = n := ⟨_, rfl⟩
  rw [hn] at h1 h2 CP HCm0 ⊢
  have HN := Lib.hid hn; clear hn
  go_enter Tryz.func15, Tryz.ntmps15
  go_wp2_with fail
  refine CP.out.mono ?_
  rintro e w1 ⟨u, rfl, hu, hb1⟩
  obtain ⟨g, c4, hv, hcap, hgb, hg2, hst, _⟩ := hu.here (by simp [Fr.packL])
  have hlp : (Fr.packL J.next L).length = n + 1 := by simp [Fr.packL]; exact HN.out
  rw [hlp] at hv hcap
  subst hv
  have HRow := Lib.hid hst
  have HB1 := Lib.hid hb1; clear hb1 CP hu hst hlp c6
  go_wp2_with fail
  go_loopw [7] (fun iv wr => ∃ k : Nat, k ≤ n ∧ iv = .int .i64 (k : Int) ∧ Hid (Below w1.heap.size w1 wr)) (fun iv _ => n - (intOf iv).toNat)
  case atStart => exact ⟨0, Nat.zero_le _, rfl, (show Below _ _ _ from Below.refl _ _)⟩
  case round =>
    obtain ⟨k, hk, rfl, HBw⟩ := hrel
    have HB : Hid (Below w.heap.size w wr) := keep_call HB1.out HBw.out
    by_cases hlt : k < n
    · have hkL : k < L.length := by rw [HN.out]; exact hlt
      have hkz : (k : Int) < (n : Int) := by omega
      obtain ⟨z0, x1⟩ := HC.out k hkL
      have x0 := (HB.out.cell (p := ⟨b, off + k * 2, none⟩) hbl).trans z0
      have HX1 : Hid (∀ W, Below w.heap.size w W → W.cell? ⟨b, off + k * 2 + 1, none⟩ = some (.string L[k].2)) := fun W hW => (hW.cell (p := ⟨b, off + k * 2 + 1, none⟩) hbl).trans x1
      have c0 := (HK.out _ HB.out).1
      have dc := hcd.out _ HB.out
      obtain ⟨y0, y1, y2⟩ := HW.out L[k] (List.getElem_mem hkL)
      clear x1 z0
      generalize L[k] = x at *
      clear hkL
      obtain ⟨xb, xd⟩ := x
      simp only at x0 HX1 y0 y1 y2
      have d1 : decide (xb < (J.home : Int)) = false := decide_eq_false (by omega)
      have d2 : decide ((dn : Int) ≤ xb) = false := decide_eq_false (by omega)
      have q1 : ¬ xb < (J.home : Int) := by omega
      have q2 : ¬ (dn : Int) ≤ xb := by omega
      have hne : ((xd.size : Int) != 256) = false := by simp; omega
      clear y0 y1
      generalize J.home = ho at *
      go_wp2_with fail
      go_quiet ((go_at_call 19; refine Calls.quiet_of_same (((CH.out _ ?_).mono (fun e w' h => ⟨h.1, h.2.symm⟩))); exact ⟨HB.out.os, HB.out.tape, HB.out.output, HB.out.size, HB.out.block⟩))
      have HBn : Hid (Below w1.heap.size w1 (wr.drewN nq)) := Fr.below_drewN HBw.out _
      have x1 := HX1.out _ (Fr.below_drewN HB.out nq)
      go_wp2
      go_roundw
      case rel => exact ⟨k + 1, by omega, by go_num, HBn⟩
      case measure => simp [intOf]; omega
    · obtain rfl : k = n := by omega
      clear CH hcd
      have hleft : J.left = J.log - J.full := rfl
      obtain ⟨c0, c3, c7⟩ := HK.out _ HB.out
      have HJw := Lib.hid (HJ.out.below HB.out)
      have HC2 : Hid (∀ W : World, W.heap[b]? = wr.heap[b]? → WritesAt W b off L) := fun W hW => cells_heapO HC.out (hW.trans (HB.out.block b hbl))
      have hblw : b < wr.heap.size := Nat.lt_of_lt_of_le hbl HB.out.size
      have hglw : g < wr.heap.size := Nat.lt_of_lt_of_le hg2 HBw.out.size
      have HRw : Hid (∀ W : World, W.heap[g]? = wr.heap[g]? → StrsAt W g 0 (Fr.bs (Fr.topL J.next L) :: L.map (·.2))) := fun W hW j hj => by
        refine (World.cell?_of_block (w := wr) (a := ⟨g, 0 + j, none⟩) hW).trans ?_
        exact (HBw.out.cell (p := ⟨g, 0 + j, none⟩) hg2).trans (HRow.out j hj)
      have HGS : Hid (¬ S g ∧ g ≠ a) := ⟨fun hk => by have := HSl.out g hk; omega, by have := HAl.out; omega⟩
      clear HC HRow HBw HB1 HK HLa
      by_cases hlt2 : J.left < k + 2
      · rw [if_pos hlt2] at HCm0
        have hgt : (J.log : Int) - (J.full : Int) < (k : Int) + 1 + 1 := by omega
        go_wp2_with fail
        go_quiet (fail)
        have HJn := Lib.hid (HJw.out.below (Fr.below_drewN (Below.refl _ _) nq))
        have CK := Lib.hid (vckp_any HJn.out.jr HJn.out.dev HJn.out.na HOK.out (by omega))
        have HCd : Hid ((J.ckp D).2.1.disk.length = D.disk.length ∧ (J.ckp D).2.1.pend.length ≤ 710000 ∧ ((J.ckp D).1 = 0 → (J.ckp D).2.2 = J.next')) := ⟨JS.ckp_disk, by have := JS.ckp_len (J := J) (D := D); omega, JS.ckp_good⟩
        generalize J.ckp D = R1 at *
        obtain ⟨er1, D0, J0⟩ := R1
        simp only at CK HCd HCm0
        go_wp2_with fail
        refine CK.out.mono ?_
        rintro e w4 ⟨rfl, hl4⟩
        obtain ⟨S0, hr0, hk0⟩ := HJn.out.all hl4
        have HB0 := Lib.hid (hk0 b (by simpa using hblw) HSB.out hab)
        have HG0 := Lib.hid (hk0 g (by simpa using hglw) HGS.out.1 HGS.out.2)
        have HR0 := Lib.hid hr0
        clear hl4 hr0 hk0 CK HJn HJw c0 c3 c7
        by_cases he1 : er1 = 0
        · have he1' : (er1 != 0) = false := by simp [he1]
          rw [if_neg (by simpa using he1)] at HCm0
          obtain ⟨hk1, hk2, hk3⟩ := HCd.out
          have hJ0 := hk3 he1
          have HCm := HCm0
          have HOK0 : Hid (J0.Ok D0.disk.length) := by show J0.Ok _; rw [hk1, hJ0]; exact HOK.out.next'
          have HDk0 : Hid (D0.disk.length = dn) := by show _ = _; rw [hk1]; exact HDN.out
          have hfu0 : J0.full + k + 1 ≤ J0.log := by rw [hJ0]; show 0 + k + 1 ≤ J.log; omega
          have hlog0 : J0.log ≤ 4096 := by rw [hJ0]; show J.log ≤ 4096; omega
          have hrow : w4.heap[b]? = wr.heap[b]? := by rw [HB0.out.2.1]; simp
          have hrog : w4.heap[g]? = wr.heap[g]? := by rw [HG0.out.2.1]; simp
          have HRow0 := Lib.hid (HRw.out w4 hrog)
          have HC0 := Lib.hid (HC2.out w4 hrow)
          have hb0 := HB0.out.2.2
          have hg0 := HG0.out.2.2
          have HSb0 := Lib.hid HB0.out.1
          have HSg0 := Lib.hid HG0.out.1
          clear hk3 hJ0 HRw HC2 hrow hrog HB0 HG0 HCd HCm0 hk1
          have CA := vlog_any (ds := L.map (·.2)) (top := Fr.bs (Fr.topL J.next L)) g 0 c4 HR0.out.jr HR0.out.dev HR0.out.na HOK0.out (by omega) (by rw [List.length_map, HN.out]; exact h2) (by rw [List.length_map, HN.out]; exact hfu0) hg0 HRow0.out HSg0.out
          rw [List.length_map, HN.out] at CA
          have CA := Lib.hid CA
          have HX : Hid ((J0.addF D0 (Fr.bs (Fr.topL J.next L)) (L.map (·.2))).2.1.disk.length = dn ∧ (J0.addF D0 (Fr.bs (Fr.topL J.next L)) (L.map (·.2))).2.1.pend.length ≤ 800000) := by
            refine ⟨JS.addF_disk.trans HDk0.out, ?_⟩
            have := JS.addF_len (J := J0) (D := D0) (top := Fr.bs (Fr.topL J.next L)) (ds := L.map (·.2))
            rw [List.length_map, HN.out] at this
            omega
          have HAE := Lib.hid (addF_err (J := J0) (D1 := D0) (t := Fr.bs (Fr.topL J.next L)) (ds := L.map (·.2)))
          have HAG := addF_good (J := J0) (D1 := D0) (t := Fr.bs (Fr.topL J.next L)) (ds := L.map (·.2))
          rw [List.length_map, HN.out] at HAG
          have HAG := Lib.hid HAG
          generalize J0.addF D0 (Fr.bs (Fr.topL J.next L)) (L.map (·.2)) = R2 at *
          obtain ⟨er2, D2, J2⟩ := R2
          simp only at CA HX HCm HAE HAG
          clear HRow0
          go_wp2_with fail
          refine CA.out.mono ?_
          rintro e w5 ⟨rfl, hl5⟩
          obtain ⟨S5, hr5, hk5⟩ := HR0.out.all hl5
          have HB5 := Lib.hid (hk5 b hb0 HSb0.out hab)
          have HR5 := Lib.hid hr5
          clear hl5 hr5 hk5 CA HR0
          by_cases he2 : er2 = 0
          · have he2' : (er2 != 0) = false := by simp [he2]
            rw [if_neg (by simpa using he2)] at HCm
            have hJ2 := HAG.out he2
            clear HAE HAG
            have c7 := HR5.out.jr.c7; have c6 := HR5.out.jr.c6; have f7 := HR5.out.jr.f 7; have f6 := HR5.out.jr.f 6
            have wN : IntKind.u64.wrap ((J0.next : Int) + 1) = (((J0.next + 1) % 18446744073709551616 : Nat) : Int) := by simp [IntKind.wrap, IntKind.bits, IntKind.signed]
            have HN5 : Hid (RJ w ((w5.setCell ⟨a, 7, none⟩ (.int .i64 ((J0.full : Int) + ((k : Int) + 1)))).setCell ⟨a, 6, none⟩ (.int .u64 (((J0.next + 1) % 18446744073709551616 : Nat) : Int))) S5 a r J2 D2 S) := by
              rw [hJ2]
              have k1 := HR5.out.put (J' := { J0 with full := J0.full + (k + 1) }) (i := 7) (v := .int .i64 ((J0.full : Int) + ((k : Int) + 1))) (by simp [JCells])
              exact k1.put (J' := J0.grow (k + 1)) (i := 6) (v := .int .u64 (((J0.next + 1) % 18446744073709551616 : Nat) : Int)) (by simp [JCells, JS.grow])
            obtain ⟨nx, hnx'⟩ : ∃ nx : Nat, (J0.next + 1) % 18446744073709551616 = nx := ⟨_, rfl⟩
            rw [hnx'] at wN HN5
            obtain ⟨w6, hw6⟩ : ∃ W, (w5.setCell ⟨a, 7, none⟩ (.int .i64 ((J0.full : Int) + ((k : Int) + 1)))).setCell ⟨a, 6, none⟩ (.int .u64 (nx : Int)) = W := ⟨_, rfl⟩
            rw [hw6] at HN5
            have HW6 := Lib.hid hw6
            have HC6 : Hid (WritesAt w6 b off L) := by
              refine cells_heapO HC0.out (Eq.trans ?_ HB5.out.2.1)
              rw [← hw6]
              rw [set_ne hab, set_ne hab]
            have hb6 : b < w6.heap.size := by rw [← hw6, set_size, set_size]; exact HB5.out.2.2
            have HSb6 := Lib.hid HB5.out.1
            clear hnx' hw6 hJ2 HR5 HB5 HC0 HSb0
            go_wp2_with fail
            rw [HW6.out]
            clear HW6 c6 c7 f6 f7 wN
            go_loopw [9] (fun i wq => ∃ (m : Nat) (Sq : Nat → Prop), m ≤ k ∧ i = .int .i64 (m : Int) ∧ Hid ((D2.wrs (L.take m)).1 = 0) ∧ Hid (RJ w wq Sq a r J2 (D2.wrs (L.take m)).2 S) ∧ Hid (¬ Sq b) ∧ Hid (wq.heap[b]? = w6.heap[b]?) ∧ b < wq.heap.size) (fun i _ => k - (intOf i).toNat)
            case atStart => exact ⟨0, S5, Nat.zero_le _, rfl, rfl, HN5, HSb6, rfl, hb6⟩
            case round =>
              clear HN5 HSb6
              obtain ⟨m, Sq, hm, rfl, HZ, HRq, HGq, HHq, hgq⟩ := hrel
              by_cases hlt : m < k
              · have hmL : m < L.length := by rw [HN.out]; exact hlt
                have hmz : (m : Int) < (k : Int) := by omega
                obtain ⟨y0, y1⟩ := cells_heapO HC6.out HHq.out m hmL
                have HG := Lib.hid fun h0 he => wrs_goes D2 L m hmL h0 he
                have HSt := Lib.hid fun h0 he => wrs_stop D2 L m hmL h0 he
                have hpk2 : (D2.wrs (L.take m)).2.pend.length ≤ 800100 := by have := D2.wrs_len (L.take m); rw [List.length_take] at this; have := HX.out.2; omega
                obtain ⟨x, hx⟩ : ∃ x, L[m] = x := ⟨_, rfl⟩
                rw [hx] at y0 y1 HG HSt
                clear hx hmL
                obtain ⟨xb, xd⟩ := x
                simp only at y0 y1 HG HSt
                generalize (D2.wrs (L.take m)) = Q at *
                obtain ⟨Q1, Q2⟩ := Q
                simp only at HG HSt HZ HRq hpk2
                obtain ⟨R, hR⟩ : ∃ R, Q2.wr xb xd = R := ⟨_, rfl⟩
                rw [hR] at HG HSt
                have c0 := HRq.out.jr.c0
                have CW : Hid (∀ W, Below wr.heap.size wr W → Calls Tryz.prog 31 #[.pointer (some ⟨r, 0, none⟩), .int .i64 xb, .string xd] W fun e w' => e = .returned (.int .i64 R.1) ∧ ∃ S', RJ w w' S' a r J2 R.2 S ∧ ¬ S' b ∧ w'.heap[b]? = w6.heap[b]? ∧ b < w'.heap.size) := fun W hW => by
                  have h2 := HRq.out.below hW
                  have hgW : b < W.heap.size := Nat.lt_of_lt_of_le hgq hW.size
                  have := rwrite_any xb xd (by omega) h2.dev
                  rw [hR] at this
                  refine this.mono fun e w' ⟨he, hl⟩ => ?_
                  obtain ⟨S', j1, j2, j3, j4⟩ := h2.leavesB hl b hgW HGq.out
                  exact ⟨he, S', j1, j2, by rw [j3, hW.block b hgq]; exact HHq.out, j4⟩
                have HKg : Hid (∀ W : World, Jr 57 W a r J2 → W.heap[b]? = w6.heap[b]? → W.cell? ⟨a, 0, none⟩ = some (.pointer (some ⟨r, 0, none⟩)) ∧ W.cell? ⟨b, off + m * 2, none⟩ = some (.int .i64 xb) ∧ W.cell? ⟨b, off + m * 2 + 1, none⟩ = some (.string xd)) := fun W hj hW =>
                  ⟨hj.c0, (World.cell?_of_block (w := wr) (a := ⟨b, off + m * 2, none⟩) (hW.trans HHq.out.symm)).trans y0, (World.cell?_of_block (w := wr) (a := ⟨b, off + m * 2 + 1, none⟩) (hW.trans HHq.out.symm)).trans y1⟩
                clear hR HRq HGq
                obtain ⟨er, DR⟩ := R
                simp only at CW HG HSt
                go_wp2_with fail
                go_region_held3 (fun W => W.cell? ⟨a, 0, none⟩ = some (.pointer (some ⟨r, 0, none⟩)) ∧ W.cell? ⟨b, off + m * 2, none⟩ = some (.int .i64 xb) ∧ W.cell? ⟨b, off + m * 2 + 1, none⟩ = some (.string xd))
                  (first | exact ⟨c0, y0, y1⟩ | assumption)
                  (first
                    | (go_at_call 31; (with_reducible refine (CW.out _ ((Below.refl _ _).drew)).mono ?_); rintro e w7 ⟨rfl, S7, hr7, hg7, hh7, hgl7⟩; have hk7 := HKg.out w7 hr7.jr hh7))
                have HR7 := Lib.hid hr7; have HG7 := Lib.hid hg7; have HH7 := Lib.hid hh7
                clear hr7 hg7 hh7 hk7 CW HKg y0 y1 c0
                by_cases her : er = 0
                · have her' : (er != 0) = false := by simp [her]
                  have HNn : Hid ((D2.wrs (L.take (m + 1))).1 = 0 ∧ (D2.wrs (L.take (m + 1))).2 = DR) := HG.out HZ.out her
                  clear HG HSt
                  go_wp2
                  go_roundw
                  case rel => exact ⟨m + 1, S7, by omega, by go_num, HNn.out.1, by show RJ _ _ _ _ _ _ _ _; rw [HNn.out.2]; exact HR7.out, HG7, HH7, hgl7⟩
                  case measure => simp [intOf]; omega
                · have her' : (er != 0) = true := by simp [her]
                  have HWs : Hid (D2.wrs L = (er, DR)) := HSt.out HZ.out her
                  clear HG HSt
                  go_wp2
                  go_ret
                  refine ⟨?_, ?_⟩
                  · rw [HCm.out, HWs.out]; rfl
                  · rw [HCm.out, HWs.out]; exact HR7.out.ends
              · obtain rfl : m = k := by omega
                have hmz : ¬ (m : Int) < (m : Int) := by omega
                have hte : L.take m = L := by rw [← HN.out, List.take_length]
                rw [hte] at HZ HRq
                go_wp2
                go_ret
                refine ⟨?_, ?_⟩
                · rw [HCm.out]; show _ = Ending.returned (.int .i64 (D2.wrs L).1); rw [HZ.out]; rfl
                · rw [HCm.out]; exact HRq.out.ends
          · have he2' : (er2 != 0) = true := by simp [he2]
            rw [if_pos (by simpa using he2)] at HCm
            have hJ2 := HAE.out he2
            subst hJ2
            go_wp2
            go_ret
            exact ⟨by rw [HCm.out]; rfl, by rw [HCm.out]; exact HR5.out.ends⟩
        · have he1' : (er1 != 0) = true := by simp [he1]
          rw [if_pos (by simpa using he1)] at HCm0
          have HF := Lib.hid (HR0.out.ends)
          go_wp2
          go_ret
          exact ⟨by rw [HCm0.out]; rfl, by rw [HCm0.out]; exact HF.out⟩
      · rw [if_neg hlt2] at HCm0
        have HCm : Hid (J.commit D L = if (J.addF D (Fr.bs (Fr.topL J.next L)) (L.map (·.2))).1 ≠ 0 then J.addF D (Fr.bs (Fr.topL J.next L)) (L.map (·.2)) else
          (((J.addF D (Fr.bs (Fr.topL J.next L)) (L.map (·.2))).2.1.wrs L).1, ((J.addF D (Fr.bs (Fr.topL J.next L)) (L.map (·.2))).2.1.wrs L).2, (J.addF D (Fr.bs (Fr.topL J.next L)) (L.map (·.2))).2.2)) := HCm0.out
        have hgt : ¬ (J.log : Int) - (J.full : Int) < (k : Int) + 1 + 1 := by omega
        go_wp2_with fail
        go_quiet (fail)
        obtain ⟨w4, hw4⟩ : ∃ W, wr.drewN nq = W := ⟨_, rfl⟩
        have hb4 : Below wr.heap.size wr w4 := by rw [← hw4]; exact Fr.below_drewN (Below.refl _ _) nq
        rw [hw4]
        clear hw4 HCm0
        obtain ⟨J0, hJ0⟩ : ∃ J', J = J' := ⟨_, rfl⟩
        obtain ⟨D0, hD0⟩ : ∃ D', D = D' := ⟨_, rfl⟩
        obtain ⟨S0, hS0⟩ : ∃ S', S = S' := ⟨_, rfl⟩
        have HR0 : Hid (RJ w w4 S0 a r J0 D0 S) := by have := HJw.out.below hb4; rw [← hJ0, ← hD0]; rw [← hS0]; exact this
        have HOK0 : Hid (J0.Ok D0.disk.length) := by rw [← hJ0, ← hD0]; exact HOK
        have HDk0 : Hid (D0.disk.length = dn) := by rw [← hD0]; exact HDN
        have hfu0 : J0.full + k + 1 ≤ J0.log := by rw [← hJ0]; omega
        have hlog0 : J0.log ≤ 4096 := by rw [← hJ0]; omega
        have hk2 : D0.pend.length ≤ 710000 := by rw [← hD0]; omega
        have HRow0 := Lib.hid (HRw.out w4 (hb4.block g hglw))
        have HC0 := Lib.hid (HC2.out w4 (hb4.block b hblw))
        have hb0 : b < w4.heap.size := Nat.lt_of_lt_of_le hblw hb4.size
        have hg0 : g < w4.heap.size := Nat.lt_of_lt_of_le hglw hb4.size
        have HSb0 : Hid (¬ S0 b) := by rw [← hS0]; exact HSB
        have HSg0 : Hid (¬ S0 g) := by rw [← hS0]; exact Lib.hid HGS.out.1
        have HCm2 : Hid (J.commit D L = if (J0.addF D0 (Fr.bs (Fr.topL J.next L)) (L.map (·.2))).1 ≠ 0 then J0.addF D0 (Fr.bs (Fr.topL J.next L)) (L.map (·.2)) else
          (((J0.addF D0 (Fr.bs (Fr.topL J.next L)) (L.map (·.2))).2.1.wrs L).1, ((J0.addF D0 (Fr.bs (Fr.topL J.next L)) (L.map (·.2))).2.1.wrs L).2, (J0.addF D0 (Fr.bs (Fr.topL J.next L)) (L.map (·.2))).2.2)) := by rw [← hJ0, ← hD0]; exact HCm
        clear HCm HJw hb4 c0 c3 c7 HRw HC2 hJ0 hD0 hS0
        have HCm := HCm2
        clear HCm2
        have CA := vlog_any (ds := L.map (·.2)) (top := Fr.bs (Fr.topL J.next L)) g 0 c4 HR0.out.jr HR0.out.dev HR0.out.na HOK0.out (by omega) (by rw [List.length_map, HN.out]; exact h2) (by rw [List.length_map, HN.out]; exact hfu0) hg0 HRow0.out HSg0.out
        rw [List.length_map, HN.out] at CA
        have CA := Lib.hid CA
        have HX : Hid ((J0.addF D0 (Fr.bs (Fr.topL J.next L)) (L.map (·.2))).2.1.disk.length = dn ∧ (J0.addF D0 (Fr.bs (Fr.topL J.next L)) (L.map (·.2))).2.1.pend.length ≤ 800000) := by
          refine ⟨JS.addF_disk.trans HDk0.out, ?_⟩
          have := JS.addF_len (J := J0) (D := D0) (top := Fr.bs (Fr.topL J.next L)) (ds := L.map (·.2))
          rw [List.length_map, HN.out] at this
          omega
        have HAE := Lib.hid (addF_err (J := J0) (D1 := D0) (t := Fr.bs (Fr.topL J.next L)) (ds := L.map (·.2)))
        have HAG := addF_good (J := J0) (D1 := D0) (t := Fr.bs (Fr.topL J.next L)) (ds := L.map (·.2))
        rw [List.length_map, HN.out] at HAG
        have HAG := Lib.hid HAG
        generalize J0.addF D0 (Fr.bs (Fr.topL J.next L)) (L.map (·.2)) = R2 at *
        obtain ⟨er2, D2, J2⟩ := R2
        simp only at CA HX HCm HAE HAG
        clear HRow0
        go_wp2_with fail
        refine CA.out.mono ?_
        rintro e w5 ⟨rfl, hl5⟩
        obtain ⟨S5, hr5, hk5⟩ := HR0.out.all hl5
        have HB5 := Lib.hid (hk5 b hb0 HSb0.out hab)
        have HR5 := Lib.hid hr5
        clear hl5 hr5 hk5 CA HR0
        by_cases he2 : er2 = 0
        · have he2' : (er2 != 0) = false := by simp [he2]
          rw [if_neg (by simpa using he2)] at HCm
          have hJ2 := HAG.out he2
          clear HAE HAG
          have c7 := HR5.out.jr.c7; have c6 := HR5.out.jr.c6; have f7 := HR5.out.jr.f 7; have f6 := HR5.out.jr.f 6
          have wN : IntKind.u64.wrap ((J0.next : Int) + 1) = (((J0.next + 1) % 18446744073709551616 : Nat) : Int) := by simp [IntKind.wrap, IntKind.bits, IntKind.signed]
          have HN5 : Hid (RJ w ((w5.setCell ⟨a, 7, none⟩ (.int .i64 ((J0.full : Int) + ((k : Int) + 1)))).setCell ⟨a, 6, none⟩ (.int .u64 (((J0.next + 1) % 18446744073709551616 : Nat) : Int))) S5 a r J2 D2 S) := by
            rw [hJ2]
            have k1 := HR5.out.put (J' := { J0 with full := J0.full + (k + 1) }) (i := 7) (v := .int .i64 ((J0.full : Int) + ((k : Int) + 1))) (by simp [JCells])
            exact k1.put (J' := J0.grow (k + 1)) (i := 6) (v := .int .u64 (((J0.next + 1) % 18446744073709551616 : Nat) : Int)) (by simp [JCells, JS.grow])
          obtain ⟨nx, hnx'⟩ : ∃ nx : Nat, (J0.next + 1) % 18446744073709551616 = nx := ⟨_, rfl⟩
          rw [hnx'] at wN HN5
          obtain ⟨w6, hw6⟩ : ∃ W, (w5.setCell ⟨a, 7, none⟩ (.int .i64 ((J0.full : Int) + ((k : Int) + 1)))).setCell ⟨a, 6, none⟩ (.int .u64 (nx : Int)) = W := ⟨_, rfl⟩
          rw [hw6] at HN5
          have HW6 := Lib.hid hw6
          have HC6 : Hid (WritesAt w6 b off L) := by
            refine cells_heapO HC0.out (Eq.trans ?_ HB5.out.2.1)
            rw [← hw6]
            rw [set_ne hab, set_ne hab]
          have hb6 : b < w6.heap.size := by rw [← hw6, set_size, set_size]; exact HB5.out.2.2
          have HSb6 := Lib.hid HB5.out.1
          clear hnx' hw6 hJ2 HR5 HB5 HC0 HSb0
          go_wp2_with fail
          rw [HW6.out]
          clear HW6 c6 c7 f6 f7 wN
          go_loopw [9] (fun i wq => ∃ (m : Nat) (Sq : Nat → Prop), m ≤ k ∧ i = .int .i64 (m : Int) ∧ Hid ((D2.wrs (L.take m)).1 = 0) ∧ Hid (RJ w wq Sq a r J2 (D2.wrs (L.take m)).2 S) ∧ Hid (¬ Sq b) ∧ Hid (wq.heap[b]? = w6.heap[b]?) ∧ b < wq.heap.size) (fun i _ => k - (intOf i).toNat)
          case atStart => exact ⟨0, S5, Nat.zero_le _, rfl, rfl, HN5, HSb6, rfl, hb6⟩
          case round =>
            clear HN5 HSb6
            obtain ⟨m, Sq, hm, rfl, HZ, HRq, HGq, HHq, hgq⟩ := hrel
            by_cases hlt : m < k
            · have hmL : m < L.length := by rw [HN.out]; exact hlt
              have hmz : (m : Int) < (k : Int) := by omega
              obtain ⟨y0, y1⟩ := cells_heapO HC6.out HHq.out m hmL
              have HG := Lib.hid fun h0 he => wrs_goes D2 L m hmL h0 he
              have HSt := Lib.hid fun h0 he => wrs_stop D2 L m hmL h0 he
              have hpk2 : (D2.wrs (L.take m)).2.pend.length ≤ 800100 := by have := D2.wrs_len (L.take m); rw [List.length_take] at this; have := HX.out.2; omega
              obtain ⟨x, hx⟩ : ∃ x, L[m] = x := ⟨_, rfl⟩
              rw [hx] at y0 y1 HG HSt
              clear hx hmL
              obtain ⟨xb, xd⟩ := x
              simp only at y0 y1 HG HSt
              generalize (D2.wrs (L.take m)) = Q at *
              obtain ⟨Q1, Q2⟩ := Q
              simp only at HG HSt HZ HRq hpk2
              obtain ⟨R, hR⟩ : ∃ R, Q2.wr xb xd = R := ⟨_, rfl⟩
              rw [hR] at HG HSt
              have c0 := HRq.out.jr.c0
              have CW : Hid (∀ W, Below wr.heap.size wr W → Calls Tryz.prog 31 #[.pointer (some ⟨r, 0, none⟩), .int .i64 xb, .string xd] W fun e w' => e = .returned (.int .i64 R.1) ∧ ∃ S', RJ w w' S' a r J2 R.2 S ∧ ¬ S' b ∧ w'.heap[b]? = w6.heap[b]? ∧ b < w'.heap.size) := fun W hW => by
                have h2 := HRq.out.below hW
                have hgW : b < W.heap.size := Nat.lt_of_lt_of_le hgq hW.size
                have := rwrite_any xb xd (by omega) h2.dev
                rw [hR] at this
                refine this.mono fun e w' ⟨he, hl⟩ => ?_
                obtain ⟨S', j1, j2, j3, j4⟩ := h2.leavesB hl b hgW HGq.out
                exact ⟨he, S', j1, j2, by rw [j3, hW.block b hgq]; exact HHq.out, j4⟩
              have HKg : Hid (∀ W : World, Jr 57 W a r J2 → W.heap[b]? = w6.heap[b]? → W.cell? ⟨a, 0, none⟩ = some (.pointer (some ⟨r, 0, none⟩)) ∧ W.cell? ⟨b, off + m * 2, none⟩ = some (.int .i64 xb) ∧ W.cell? ⟨b, off + m * 2 + 1, none⟩ = some (.string xd)) := fun W hj hW =>
                ⟨hj.c0, (World.cell?_of_block (w := wr) (a := ⟨b, off + m * 2, none⟩) (hW.trans HHq.out.symm)).trans y0, (World.cell?_of_block (w := wr) (a := ⟨b, off + m * 2 + 1, none⟩) (hW.trans HHq.out.symm)).trans y1⟩
              clear hR HRq HGq
              obtain ⟨er, DR⟩ := R
              simp only at CW HG HSt
              go_wp2_with fail
              go_region_held3 (fun W => W.cell? ⟨a, 0, none⟩ = some (.pointer (some ⟨r, 0, none⟩)) ∧ W.cell? ⟨b, off + m * 2, none⟩ = some (.int .i64 xb) ∧ W.cell? ⟨b, off + m * 2 + 1, none⟩ = some (.string xd))
                (first | exact ⟨c0, y0, y1⟩ | assumption)
                (first
                  | (go_at_call 31; (with_reducible refine (CW.out _ ((Below.refl _ _).drew)).mono ?_); rintro e w7 ⟨rfl, S7, hr7, hg7, hh7, hgl7⟩; have hk7 := HKg.out w7 hr7.jr hh7))
              have HR7 := Lib.hid hr7; have HG7 := Lib.hid hg7; have HH7 := Lib.hid hh7
              clear hr7 hg7 hh7 hk7 CW HKg y0 y1 c0
              by_cases her : er = 0
              · have her' : (er != 0) = false := by simp [her]
                have HNn : Hid ((D2.wrs (L.take (m + 1))).1 = 0 ∧ (D2.wrs (L.take (m + 1))).2 = DR) := HG.out HZ.out her
                clear HG HSt
                go_wp2
                go_roundw
                case rel => exact ⟨m + 1, S7, by omega, by go_num, HNn.out.1, by show RJ _ _ _ _ _ _ _ _; rw [HNn.out.2]; exact HR7.out, HG7, HH7, hgl7⟩
                case measure => simp [intOf]; omega
              · have her' : (er != 0) = true := by simp [her]
                have HWs : Hid (D2.wrs L = (er, DR)) := HSt.out HZ.out her
                clear HG HSt
                go_wp2
                go_ret
                refine ⟨?_, ?_⟩
                · rw [HCm.out, HWs.out]; rfl
                · rw [HCm.out, HWs.out]; exact HR7.out.ends
            · obtain rfl : m = k := by omega
              have hmz : ¬ (m : Int) < (m : Int) := by omega
              have hte : L.take m = L := by rw [← HN.out, List.take_length]
              rw [hte] at HZ HRq
              go_wp2
              go_ret
              refine ⟨?_, ?_⟩
              · rw [HCm.out]; show _ = Ending.returned (.int .i64 (D2.wrs L).1); rw [HZ.out]; rfl
              · rw [HCm.out]; exact HRq.out.ends
        · have he2' : (er2 != 0) = true := by simp [he2]
          rw [if_pos (by simpa using he2)] at HCm
          have hJ2 := HAE.out he2
          subst hJ2
          go_wp2
          go_ret
          exact ⟨by rw [HCm.out]; rfl, by rw [HCm.out]; exact HR5.out.ends⟩

theorem vcommit_any {v : Value} (hj : Jr 57 w a r J) (hd : RStands S w r D) (ha : ¬ S a) (ok : J.Ok D.disk.length) (hp : D.pend.length ≤ 700000) (hl : L.length ≤ 1000) (hs : ∀ x ∈ L, x.2.size ≤ maxLen) (h : SlW w v L) (hou : Outs S v) (hli : Lies w a v) :
    Calls Tryz.prog 15 #[.pointer (some ⟨a, 0, none⟩), v] w fun e w' => e = .returned (.int .i64 (J.commit D L).1) ∧ RJLeaves S w w' a r (J.commit D L).2.1 (J.commit D L).2.2 := by
  by_cases hm : L.length = 0 ∨ 48 < L.length
  · have e : J.chk D.disk.length L = 6 := by unfold JS.chk; rw [if_pos hm]
    have e2 : J.commit D L = (6, D, J) := by unfold JS.commit; rw [e, if_pos (by omega)]; rfl
    obtain ⟨ao, c, rfl, _⟩ := h
    rw [e2]
    exact vcommit_many ao _ c hj hd hm hl
  · have e : J.chk D.disk.length L = J.chkL D.disk.length L := by unfold JS.chk; rw [if_neg hm]
    obtain ⟨b, off, c, rfl, _, hb, hc⟩ := h.here (by omega)
    by_cases hx : J.chkL D.disk.length L = 0
    · exact vcommit_good b off c hj hd ha ok hp (by omega) (by omega) ((J.chkL_ok _ L).1 hx) hs h hb hc (hou b off _ c rfl) (hli.ne b off _ c rfl)
    · have e2 : J.commit D L = (((J.chkL D.disk.length L : Nat) : Int), D, J) := by unfold JS.commit; rw [e, if_pos hx]
      rw [e2]
      exact vcommit_bad b off c hj hd ok (by omega) (by omega) hs h hb hc hx
end
end Go.Proofs.YtepfcaopboenpaaGreat

/- JournalOpens answers true for every texts, every number and every length of a log: the walk. -/
import Derived.Test.YtpoekkclkohanaaZLBoth
import Derived.Test.YtpoekkclkohanaaZLBegin

namespace Go.Proofs.Ytpoekkclkohanaa
open Go.RowKit
open Fr (SlS StrsAt)

section
variable {w0 w w' : World} {S1 S2 : Nat → Prop} {p r : Nat} {D E : DevS}
theorem Bo.start {v1 v2 : World} (h0 : Below w0.heap.size w0 w) (h1 : Fresh w v1 p D) (h2 : ∃ S : Nat → Prop, (∀ k, S k → v1.heap.size ≤ k) ∧ RStands S v2 r E ∧ Below v1.heap.size v1 v2) : ∃ S1 S2, Bo w0 v2 S1 S2 p D r E := by
  obtain ⟨S1, a1, a2, a3⟩ := h1
  obtain ⟨S2, b1, b2, b3⟩ := h2
  have h3 : Below w0.heap.size w0 v1 := h0.trans (a3.mono h0.size)
  exact ⟨S1, S2, a2.below b3, b2, fun k hk hk2 => by have := a2.lt k hk; have := b1 k hk2; omega, fun k hk => Nat.le_trans h0.size (a1 k hk), fun k hk => Nat.le_trans h3.size (b1 k hk), h3.trans (b3.mono h3.size)⟩
theorem Bo.disk (h : Bo w0 w S1 S2 p D r E) : Calls Try.prog 14 #[.pointer (some ⟨p, 0, none⟩)] w fun e w' => ∃ v, e = .returned v ∧ SlS w' v D.disk ∧ Below w.heap.size w w' :=
  (disk_any h.d).mono fun e w' ⟨v, he, ho, hb⟩ => ⟨v, he, Fr.OwnS.sl (B := w.heap.size) ho, hb⟩
theorem Bo.row (h : Bo w0 w S1 S2 p D r E) : ∃ v, w.cell? ⟨r, 0, none⟩ = some v ∧ SlS w v E.disk := by
  obtain ⟨q, lcap, pv, hr⟩ := h.e
  exact ⟨_, hr.c0, Fr.OwnS.sl (B := 0) hr.hl⟩
/-- Both Opens, one behind the other: the same error, the same device, and journals that say the same. -/
theorem Bo.opens (h : Bo w0 w S1 S2 p D r D) (hp : D.pend.length ≤ 600000) : Calls Try.prog 11 #[.pointer (some ⟨p, 0, none⟩)] w fun e w' =>
    (∃ S, Bo w0 w' S S2 p D.opn.2.1 r D ∧ match D.opn.2.2 with
      | none => e = .returned (.tuple #[.pointer none, .int .i64 D.opn.1])
      | some J => ∃ a, e = .returned (.tuple #[.pointer (some ⟨a, 0, none⟩), .int .i64 D.opn.1]) ∧ ¬ S a ∧ ¬ S2 a ∧ w0.heap.size ≤ a ∧ Jr 64 w' a p J) := by
  refine (open_any h.d hp).mono fun e w' ho => ?_
  obtain ⟨S, h1, h2, h3, h4⟩ := ho
  refine ⟨S, h.one h1 h2 h3, ?_⟩
  cases hx : D.opn.2.2 with
  | none => rw [hx] at h4; exact h4
  | some J =>
    rw [hx] at h4
    obtain ⟨a, e1, e2, e3, e4⟩ := h4
    exact ⟨a, e1, e3, fun hk => by have := h.e.lt a hk; omega, Nat.le_trans h.bel.size e2, e4⟩
theorem Bo.vopens (h : Bo w0 w S1 S2 p E r D) (hp : D.pend.length ≤ 600000) : Calls Try.prog 12 #[.pointer (some ⟨r, 0, none⟩)] w fun e w' =>
    (∃ S, Bo w0 w' S1 S p E r D.opn.2.1 ∧ Only S2 w w' ∧ match D.opn.2.2 with
      | none => e = .returned (.tuple #[.pointer none, .int .i64 D.opn.1])
      | some J => ∃ b, e = .returned (.tuple #[.pointer (some ⟨b, 0, none⟩), .int .i64 D.opn.1]) ∧ w.heap.size ≤ b ∧ Jr 50 w' b r J) := by
  refine (vopen_any h.e hp).mono fun e w' ho => ?_
  obtain ⟨S, h1, h2, h3, h4⟩ := ho
  refine ⟨S, h.two h1 h2 h3, h3, ?_⟩
  cases hx : D.opn.2.2 with
  | none => rw [hx] at h4; exact h4
  | some J =>
    rw [hx] at h4
    obtain ⟨a, e1, e2, e3, e4⟩ := h4
    exact ⟨a, e1, e2, e4⟩
theorem Bo.format (h : Bo w0 w S1 S2 p D r E) (log : Int) (hp : D.pend.length ≤ 600000) : Calls Try.prog 18 #[.pointer (some ⟨p, 0, none⟩), .int .i64 log] w fun e w' => e = .returned (.int .i64 (D.fmt log).1) ∧ ∃ S, Bo w0 w' S S2 p (D.fmt log).2 r E :=
  (format_any log h.d (by omega)).mono fun e w' ⟨he, S, h1, h2, h3⟩ => ⟨he, S, h.one h1 h2 h3⟩
theorem Bo.vformat (h : Bo w0 w S1 S2 p D r E) (log : Int) (hp : E.pend.length ≤ 600000) (hlog : -9223372036854775808 ≤ log ∧ log ≤ 9223372036854775807) : Calls Try.prog 19 #[.pointer (some ⟨r, 0, none⟩), .int .i64 log] w fun e w' => e = .returned (.int .i64 (E.fmt log).1) ∧ ∃ S, Bo w0 w' S1 S p D r (E.fmt log).2 :=
  (vformat_any log h.e hp hlog).mono fun e w' ⟨he, S, h1, h2, h3⟩ => ⟨he, S, h.two h1 h2 h3⟩
end

theorem seq_same {w : World} {a p : Nat} {J : JS} (h : Jr 64 w a p J) : Calls Try.prog 15 #[.pointer (some ⟨a, 0, none⟩)] w fun e w' => e = .returned (.int .u64 J.next) ∧ w' = w := (seq_any h).mono fun _ _ h => ⟨h.1, h.2.symm⟩
theorem home_same {w : World} {a p : Nat} {J : JS} (h : Jr 64 w a p J) (hl : J.log ≤ 4096) : Calls Try.prog 16 #[.pointer (some ⟨a, 0, none⟩)] w fun e w' => e = .returned (.int .i64 J.home) ∧ w' = w := (home_any h hl).mono fun _ _ h => ⟨h.1, h.2.symm⟩
theorem vhome_same {w : World} {a p : Nat} {J : JS} (h : Jr 50 w a p J) (hl : J.log ≤ 4096) : Calls Try.prog 17 #[.pointer (some ⟨a, 0, none⟩)] w fun e w' => e = .returned (.int .i64 J.home) ∧ w' = w := (vhome_any h hl).mono fun _ _ h => ⟨h.1, h.2.symm⟩
theorem opn_log (D : DevS) {J : JS} (h : D.opn.2.2 = some J) (hd : D.disk.length ≤ 4096) : J.log ≤ 4096 := by
  unfold DevS.opn at h
  split at h
  · cases h
  · split at h
    · cases h
    · rename_i J0 hJ0
      obtain ⟨ok, _⟩ := find_ok hJ0
      obtain ⟨h1, h2, h3⟩ := redoN_keeps (J0.log + 1) J0 D ok
      have e : J0.redo D = J0.redoN D (J0.log + 1) := rfl
      simp only at h
      rw [e] at h
      generalize J0.redoN D (J0.log + 1) = R at *
      split at h
      · cases h
      · split at h
        · cases h
        · rename_i h5
          simp only [Option.some.injEq] at h
          subst h
          have hl := h2.l1
          unfold JS.ckp at h5 ⊢
          simp only at h5 ⊢
          split
          · simp only; omega
          · split
            · simp only; omega
            · show R.2.2.log ≤ _; omega

set_option maxRecDepth 100000 in
set_option maxHeartbeats 4000000 in
theorem opens_some (ao : Option Addr) (c : Nat) (n log : Int) (L : List ByteArray) (w : World) (hL : SlS w (.slice ao L.length c) L) (hl : L.length ≤ 80) (hn : -9223372036854775808 ≤ n ∧ n ≤ 9223372036854775807) (hlog : -9223372036854775808 ≤ log ∧ log ≤ 9223372036854775807) :
    Calls Try.prog 3 #[.slice ao L.length c, .int .i64 n, .int .i64 log] w fun e w' => e = .returned (.bool true) ∧ Below w.heap.size w w' := by
  have HL := Lib.hid hL; clear hL
  have hpk := pickI_lt n 90 (by omega)
  have CP := Lib.hid fun W => pick_any n 90 W hn (by omega)
  obtain ⟨m, hm⟩ : ∃ m : Nat, pickI n 90 = (m : Int) := ⟨(pickI n 90).toNat, by omega⟩
  rw [hm] at CP hpk
  clear hm hn
  have hm1 : m < 90 := by omega
  have C1 : Hid (∀ W, Calls Try.prog 6 #[.int .i64 (1 + (m : Int))] W fun e w' => ∃ p, e = .returned (.tuple #[.pointer (some ⟨p, 0, none⟩), .int .i64 0]) ∧ Fresh W w' p (DevS.made (m + 1))) := fun W => by
    have := new_any (1 + (m : Int)) W (by omega)
    rwa [show (1 + (m : Int)).toNat = m + 1 by omega] at this
  have C2 : Hid (∀ W, Calls Try.prog 7 #[.int .i64 (1 + (m : Int))] W fun e w' => ∃ r, e = .returned (.tuple #[.pointer (some ⟨r, 0, none⟩), .bool true]) ∧ ∃ S : Nat → Prop, (∀ k, S k → W.heap.size ≤ k) ∧ RStands S w' r (DevS.made (m + 1)) ∧ Below W.heap.size W w') := fun W => by
    have := rnew_yes (m + 1) W (by omega) (by omega)
    rwa [show ((m + 1 : Nat) : Int) = 1 + (m : Int) by omega] at this
  have HP0 : Hid ((DevS.made (m + 1)).pend.length ≤ 0) := Nat.le_refl _
  generalize DevS.made (m + 1) = D0 at *
  go_enter Try.func3, Try.ntmps3
  go_wp2_with fail
  refine (shown_any _).mono ?_
  rintro e w1 ⟨rfl, hb1⟩
  have H1 := Lib.hid hb1; clear hb1
  go_wp2_with fail
  refine (CP.out _).mono ?_
  rintro e w2 ⟨rfl, rfl⟩
  go_wp2_with fail
  refine (C1.out _).mono ?_
  rintro e w3 ⟨p, rfl, hf⟩
  have HF := Lib.hid hf; clear hf
  go_wp2_with fail
  refine (C2.out _).mono ?_
  rintro e w4 ⟨r, rfl, hr⟩
  obtain ⟨S1, S2, hbo⟩ := Bo.start H1.out HF.out hr
  have HB := Lib.hid hbo
  clear hr hbo HF H1 CP C1 C2
  go_wp2_with fail
  go_loopw [13] (fun i wr => ∃ (k : Nat) (D : DevS) (T1 T2 : Nat → Prop), k ≤ L.length ∧ i = .int .i64 k ∧ D.pend.length ≤ k ∧ Hid (Bo w wr T1 T2 p D r D)) (fun i _ => L.length - (intOf i).toNat)
  case atStart => exact ⟨0, D0, S1, S2, Nat.zero_le _, rfl, HP0.out, HB⟩
  case round =>
    clear HB HP0
    obtain ⟨k, D, T1, T2, hk, rfl, hpe, HB⟩ := hrel
    by_cases hlt : k < L.length
    · obtain ⟨b, off, c', hv, _, hb, hat⟩ := HL.out.here (by omega)
      simp only [Value.slice.injEq] at hv
      obtain ⟨rfl, _, rfl⟩ := hv
      have HC0 := Lib.hid (hat k hlt)
      clear hat
      generalize L[k] = x at *
      have hc := (HB.out.bel.cell (p := ⟨b, off + k, none⟩) hb).trans HC0.out
      by_cases hx : x.size ≤ 600
      · have CD := Lib.hid fun W => data_any x W hx
        generalize textOf (byteAt x) = T at *
        go_wp2_with fail
        refine (CD.out _).mono ?_
        rintro e w5 ⟨rfl, hb5⟩
        have HB5 := Lib.hid (HB.out.below hb5)
        clear hb5 hc
        go_wp2_with fail
        refine (HB5.out.write k T (by omega)).mono ?_
        rintro e w6 ⟨rfl, T6, hb6⟩
        have HB6 := Lib.hid hb6
        have hpe6 : (D.wr (k : Int) T).2.pend.length ≤ k + 1 := by have := D.wr_len (k : Int) T; omega
        have hc := (HB6.out.bel.cell (p := ⟨b, off + k, none⟩) hb).trans HC0.out
        clear hb6 HB5
        go_wp2_with fail
        refine (CD.out _).mono ?_
        rintro e w7 ⟨rfl, hb7⟩
        have HB7 := Lib.hid (HB6.out.below hb7)
        clear hb7 hc HB6
        go_wp2_with fail
        refine (HB7.out.rwrite k T (by omega)).mono ?_
        rintro e w8 ⟨rfl, T8, hb8⟩
        have HB8 := Lib.hid hb8
        clear hb8 HB7
        generalize (D.wr (k : Int) T) = R at *
        go_wp2
        go_roundw
        case rel => exact ⟨k + 1, R.2, T6, T8, by omega, by go_num, hpe6, HB8⟩
        case measure => simp [intOf]; omega
      · have hx' : ¬ (x.size : Int) ≤ 600 := by omega
        have HF := Lib.hid HB.out.bel
        go_wp2
        go_ret
        exact ⟨rfl, HF.out⟩
    · have hdl := HB.out.d.ok.few
      have hopn := opn_pend D
      have C1 := Lib.hid (HB.out.opens (by omega))
      have HOC := Lib.hid (opn_cases D)
      have HJL := Lib.hid fun J h => opn_log D (J := J) h hdl
      have C2 : Hid (∀ W X1 X2 E, Bo w W X1 X2 p E r D → Calls Try.prog 12 #[.pointer (some ⟨r, 0, none⟩)] W fun e w' =>
        (∃ S, Bo w w' X1 S p E r D.opn.2.1 ∧ Only X2 W w' ∧ match D.opn.2.2 with
          | none => e = .returned (.tuple #[.pointer none, .int .i64 D.opn.1])
          | some J => ∃ b, e = .returned (.tuple #[.pointer (some ⟨b, 0, none⟩), .int .i64 D.opn.1]) ∧ W.heap.size ≤ b ∧ Jr 50 w' b r J)) := fun W X1 X2 E h => h.vopens (by omega)
      generalize D.opn = R at *
      obtain ⟨er, DR, oJ⟩ := R
      simp only at C1 C2 HOC hopn HJL
      have hp8 : DR.pend.length ≤ 600000 := by omega
      clear hpe HB HL hopn
      rcases HOC.out with ⟨hj, her⟩ | ⟨J, hj, her⟩
      · subst hj
        have b1 : (er != er) = false := by simp
        have b2 : (er == 0) = false := by simpa using her
        have b3 : (er != 0) = true := by simpa using her
        clear her HOC
        simp only at C1 C2
        go_wp2_with fail
        refine C1.out.mono ?_
        rintro e w5 ⟨U1, hb5, rfl⟩
        have HB5 := Lib.hid hb5
        clear hb5 C1
        go_wp2_with fail
        refine (C2.out _ _ _ _ HB5.out).mono ?_
        rintro e w6 ⟨U2, hb6, _, rfl⟩
        have HB6 := Lib.hid hb6
        clear hb6 C2 HB5
        go_wp2_with fail
        obtain ⟨v2, hv2, hs2⟩ := HB6.out.row
        have hrl : r < w6.heap.size := World.block_lt_of_cell? w6 _ hv2
        have HS2 := Lib.hid hs2
        have CD : Hid (∀ W, Below w6.heap.size w6 W → Calls Try.prog 14 #[.pointer (some ⟨p, 0, none⟩)] W fun e w' => ∃ v, e = .returned v ∧ SlS w' v DR.disk ∧ Below W.heap.size W w') := fun W hW => (HB6.out.below hW).disk
        have hdl6 := HB6.out.d.ok.few
        have CSm : Hid (∀ W v1, SlS W v1 DR.disk → SlS W v2 DR.disk → Calls Try.prog 13 #[v1, v2] W fun e w' => e = .returned (.bool true) ∧ Below W.heap.size W w') := fun W v1 h1 h2 =>
          (same_dec DR.disk DR.disk v1 v2 W (by omega) rfl h1 h2).mono fun e w' ⟨he, hb⟩ => ⟨by rw [he]; simp, hb⟩
        clear hs2
        go_region_held3 (fun W => W.cell? ⟨r, 0, none⟩ = some v2)
          (first | exact hv2 | assumption)
          (first
            | (go_at_call 14; refine (CD.out _ ((Below.refl _ _).drew)).mono ?_; rintro e w7 ⟨v1, rfl, hs7, hb7'⟩; have hb7 : Below w6.heap.size w6 w7 := Fr.below_predrew hb7'; have hh7 : w7.cell? ⟨r, 0, none⟩ = some v2 := (hb7.cell (p := ⟨r, 0, none⟩) hrl).trans hv2; have hr7 : SlS w7 v2 DR.disk := HS2.out.below hb7)
            | (go_at_call 13; (with_reducible refine (CSm.out _ _ hs7 hr7).mono ?_); rintro e w8 ⟨rfl, hb8⟩; have hh8 : w8.cell? ⟨r, 0, none⟩ = some v2 := (hb8.cell (p := ⟨r, 0, none⟩) (Nat.lt_of_lt_of_le hrl hb7.size)).trans hh7))
        have HB8 := Lib.hid ((HB6.out.below hb7).below hb8)
        clear hb7 hb8 hb7' hs7 hr7 hh7 hh8 hv2 HS2 CD CSm HB6
        go_wp2_with fail
        go_quiet (fail)
        obtain ⟨F, hF⟩ : ∃ F, DR.fmt log = F := ⟨_, rfl⟩
        have CF1 : Hid (∀ W, Below (w8.drewN nq).heap.size (w8.drewN nq) W → Calls Try.prog 18 #[.pointer (some ⟨p, 0, none⟩), .int .i64 log] W fun e w' => e = .returned (.int .i64 F.1) ∧ ∃ S, Bo w w' S U2 p F.2 r DR) := fun W hW => by rw [← hF]; exact ((HB8.out.below (Fr.below_drewN (Below.refl _ _) nq)).below hW).format log hp8
        have CF2 : Hid (∀ W X1, Bo w W X1 U2 p F.2 r DR → Calls Try.prog 19 #[.pointer (some ⟨r, 0, none⟩), .int .i64 log] W fun e w' => e = .returned (.int .i64 F.1) ∧ ∃ S, Bo w w' X1 S p F.2 r F.2) := fun W X1 h => by
          have := h.vformat log hp8 hlog
          rwa [hF] at this
        clear hF
        obtain ⟨ef, DF⟩ := F
        simp only at CF1 CF2
        have CSm : Hid (∀ W v1 v2, DF.disk.length ≤ 5000 → SlS W v1 DF.disk → SlS W v2 DF.disk → Calls Try.prog 13 #[v1, v2] W fun e w' => e = .returned (.bool true) ∧ Below W.heap.size W w') := fun W v1 v2 hl h1 h2 =>
          (same_dec DF.disk DF.disk v1 v2 W hl rfl h1 h2).mono fun e w' ⟨he, hb⟩ => ⟨by rw [he]; simp, hb⟩
        have b9 : (ef == ef) = true := by simp
        go_wp2_with fail
        go_region_with (first
          | (go_at_call 18; refine (CF1.out _ ((Below.refl _ _).drew)).mono ?_; rintro e w9 ⟨rfl, V1, hb9⟩)
          | (go_at_call 19; (with_reducible refine (CF2.out _ _ hb9).mono ?_); rintro e w10 ⟨rfl, V2, hb10⟩; obtain ⟨v3, hv3, hs3⟩ := hb10.row; have hrl10 : r < w10.heap.size := World.block_lt_of_cell? w10 _ hv3)
          | (go_at_call 14; (with_reducible refine (hb10.disk).mono ?_); rintro e w11 ⟨v4, rfl, hs11, hb11⟩; have hv3' := (hb11.cell (p := ⟨r, 0, none⟩) hrl10).trans hv3; have hs3' := hs3.below hb11)
          | (go_at_call 13; (with_reducible refine (CSm.out _ _ _ (by have := hb10.d.ok.few; omega) hs11 hs3').mono ?_); rintro e w12 ⟨rfl, hb12⟩))
        all_goals
          go_wp2
          go_ret
          exact ⟨by first | rfl | kernel_rfl, ((hb10.below hb11).below hb12).bel⟩
      · subst hj her
        have b1 : ((0 : Int) != 0) = false := rfl
        clear HOC
        simp only at C1 C2
        go_wp2_with fail
        refine C1.out.mono ?_
        rintro e w5 ⟨U1, hb5, a, rfl, na1, na2, _, hj5⟩
        have HB5 := Lib.hid hb5; have HJ5 := Lib.hid hj5; have HNA2 := Lib.hid na2
        clear hb5 C1 hj5 na1 na2
        go_wp2_with fail
        refine (C2.out _ _ _ _ HB5.out).mono ?_
        rintro e w6 ⟨U2, hb6, ho6, bb, rfl, _, hk6⟩
        have HB6 := Lib.hid hb6
        have HJ6 := Lib.hid (HJ5.out.only ho6 HNA2.out)
        have HK6 := Lib.hid hk6
        clear hb6 C2 HB5 ho6 hk6 HJ5 HNA2
        go_wp2_with fail
        obtain ⟨v2, hv2, hs2⟩ := HB6.out.row
        have hrl : r < w6.heap.size := World.block_lt_of_cell? w6 _ hv2
        have HS2 := Lib.hid hs2
        have CD : Hid (∀ W, Below w6.heap.size w6 W → Calls Try.prog 14 #[.pointer (some ⟨p, 0, none⟩)] W fun e w' => ∃ v, e = .returned v ∧ SlS w' v DR.disk ∧ Below W.heap.size W w') := fun W hW => (HB6.out.below hW).disk
        have hdl6 := HB6.out.d.ok.few
        have CSm : Hid (∀ W v1, SlS W v1 DR.disk → SlS W v2 DR.disk → Calls Try.prog 13 #[v1, v2] W fun e w' => e = .returned (.bool true) ∧ Below W.heap.size W w') := fun W v1 h1 h2 =>
          (same_dec DR.disk DR.disk v1 v2 W (by omega) rfl h1 h2).mono fun e w' ⟨he, hb⟩ => ⟨by rw [he]; simp, hb⟩
        clear hs2
        go_region_held3 (fun W => W.cell? ⟨r, 0, none⟩ = some v2)
          (first | exact hv2 | assumption)
          (first
            | (go_at_call 14; refine (CD.out _ ((Below.refl _ _).drew)).mono ?_; rintro e w7 ⟨v1, rfl, hs7, hb7'⟩; have hb7 : Below w6.heap.size w6 w7 := Fr.below_predrew hb7'; have hh7 : w7.cell? ⟨r, 0, none⟩ = some v2 := (hb7.cell (p := ⟨r, 0, none⟩) hrl).trans hv2; have hr7 : SlS w7 v2 DR.disk := HS2.out.below hb7)
            | (go_at_call 13; (with_reducible refine (CSm.out _ _ hs7 hr7).mono ?_); rintro e w8 ⟨rfl, hb8⟩; have hh8 : w8.cell? ⟨r, 0, none⟩ = some v2 := (hb8.cell (p := ⟨r, 0, none⟩) (Nat.lt_of_lt_of_le hrl hb7.size)).trans hh7))
        have HB8 := Lib.hid ((HB6.out.below hb7).below hb8)
        have HJ8 := Lib.hid ((HJ6.out.below hb7).below hb8)
        have HK8 := Lib.hid ((HK6.out.below hb7).below hb8)
        clear hb7 hb8 hb7' hs7 hr7 hh7 hh8 hv2 HS2 CD CSm HB6
        have cN := HK8.out.c6
        have hlg : J.log ≤ 4096 := HJL.out J rfl
        have q1 := Lib.hid fun n => seq_same (HJ8.out.below (Fr.below_drewN (Below.refl _ _) n))
        have q2 := Lib.hid fun n => home_same (HJ8.out.below (Fr.below_drewN (Below.refl _ _) n)) hlg
        have q3 := Lib.hid fun n => vhome_same (HK8.out.below (Fr.below_drewN (Below.refl _ _) n)) hlg
        have b4 : ((J.next : Int) != (J.next : Int)) = false := by simp
        have b5 : ((J.home : Int) != (J.home : Int)) = false := by simp
        go_wp2_with fail
        go_quiet ((first | (go_at_call 15; exact Calls.quiet_of_same (q1.out _)) | (go_at_call 16; exact Calls.quiet_of_same (q2.out _)) | (go_at_call 17; exact Calls.quiet_of_same (q3.out _))))
        obtain ⟨F, hF⟩ : ∃ F, DR.fmt log = F := ⟨_, rfl⟩
        have CF1 : Hid (∀ W, Below (w8.drewN nq).heap.size (w8.drewN nq) W → Calls Try.prog 18 #[.pointer (some ⟨p, 0, none⟩), .int .i64 log] W fun e w' => e = .returned (.int .i64 F.1) ∧ ∃ S, Bo w w' S U2 p F.2 r DR) := fun W hW => by rw [← hF]; exact ((HB8.out.below (Fr.below_drewN (Below.refl _ _) nq)).below hW).format log hp8
        have CF2 : Hid (∀ W X1, Bo w W X1 U2 p F.2 r DR → Calls Try.prog 19 #[.pointer (some ⟨r, 0, none⟩), .int .i64 log] W fun e w' => e = .returned (.int .i64 F.1) ∧ ∃ S, Bo w w' X1 S p F.2 r F.2) := fun W X1 h => by
          have := h.vformat log hp8 hlog
          rwa [hF] at this
        clear hF
        obtain ⟨ef, DF⟩ := F
        simp only at CF1 CF2
        have CSm : Hid (∀ W v1 v2, DF.disk.length ≤ 5000 → SlS W v1 DF.disk → SlS W v2 DF.disk → Calls Try.prog 13 #[v1, v2] W fun e w' => e = .returned (.bool true) ∧ Below W.heap.size W w') := fun W v1 v2 hl h1 h2 =>
          (same_dec DF.disk DF.disk v1 v2 W hl rfl h1 h2).mono fun e w' ⟨he, hb⟩ => ⟨by rw [he]; simp, hb⟩
        have b9 : (ef == ef) = true := by simp
        go_wp2_with fail
        go_region_with (first
          | (go_at_call 18; refine (CF1.out _ ((Below.refl _ _).drew)).mono ?_; rintro e w9 ⟨rfl, V1, hb9⟩)
          | (go_at_call 19; (with_reducible refine (CF2.out _ _ hb9).mono ?_); rintro e w10 ⟨rfl, V2, hb10⟩; obtain ⟨v3, hv3, hs3⟩ := hb10.row; have hrl10 : r < w10.heap.size := World.block_lt_of_cell? w10 _ hv3)
          | (go_at_call 14; (with_reducible refine (hb10.disk).mono ?_); rintro e w11 ⟨v4, rfl, hs11, hb11⟩; have hv3' := (hb11.cell (p := ⟨r, 0, none⟩) hrl10).trans hv3; have hs3' := hs3.below hb11)
          | (go_at_call 13; (with_reducible refine (CSm.out _ _ _ (by have := hb10.d.ok.few; omega) hs11 hs3').mono ?_); rintro e w12 ⟨rfl, hb12⟩))
        all_goals
          go_wp2
          go_ret
          exact ⟨by first | rfl | kernel_rfl, ((hb10.below hb11).below hb12).bel⟩

set_option maxRecDepth 100000 in
set_option maxHeartbeats 1000000 in
theorem opens_many (ao : Option Addr) (c k : Nat) (n log : Int) (w : World) (hl : 80 < k) :
    Calls Try.prog 3 #[.slice ao k c, .int .i64 n, .int .i64 log] w fun e w' => e = .returned (.bool true) ∧ Below w.heap.size w w' := by
  go_enter Try.func3, Try.ntmps3
  go_wp2_with fail
  refine (shown_any _).mono ?_
  rintro e w1 ⟨rfl, hb1⟩
  have H1 := Lib.hid hb1; clear hb1
  go_wp2
  go_ret
  exact ⟨rfl, H1.out⟩
theorem opens_any (v : Value) (n log : Int) (L : List ByteArray) (w : World) (hL : SlS w v L) (hn : -9223372036854775808 ≤ n ∧ n ≤ 9223372036854775807) (hlog : -9223372036854775808 ≤ log ∧ log ≤ 9223372036854775807) :
    Calls Try.prog 3 #[v, .int .i64 n, .int .i64 log] w fun e w' => e = .returned (.bool true) ∧ Below w.heap.size w w' := by
  have hL2 := hL
  obtain ⟨ao, c, rfl, _⟩ := hL
  by_cases hl : L.length ≤ 80
  · exact opens_some ao c n log L w hL2 hl hn hlog
  · exact opens_many ao c _ n log w (by omega)
end Go.Proofs.Ytpoekkclkohanaa

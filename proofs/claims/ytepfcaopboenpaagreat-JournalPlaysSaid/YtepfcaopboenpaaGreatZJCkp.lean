/- What Checkpoint answers and leaves behind, for every journal over every device. -/
import Derived.Test.YtepfcaopboenpaaGreatZJCheck
import Derived.Test.YtepfcaopboenpaaGreatZJSlot
import Derived.BigRegion

namespace Go.Proofs.YtepfcaopboenpaaGreat
open Go.RowKit
open Fr (SlW WritesAt)

section
variable {t : TypeId} {S S1 T : Nat → Prop} {w w1 w2 w' : World} {a p : Nat} {J J1 J2 : JS} {D D1 D2 : DevS} {v : Value} {L : List (Int × ByteArray)}

/-- What a call that may write on a journal and its device leaves. -/
def JLeaves (t : TypeId) (S : Nat → Prop) (w w' : World) (a p : Nat) (D' : DevS) (J' : JS) : Prop :=
  ∃ S' : Nat → Prop, (∀ k, S' k → S k ∨ w.heap.size ≤ k) ∧ Stands S' w' p D' ∧ Jr t w' a p J' ∧ Only (fun k => S k ∨ k = a) w w'
theorem JLeaves.of (h : Leaves S w w' p D1) (hj : Jr t w a p J) (ha : ¬ S a) : JLeaves t S w w' a p D1 J := by
  obtain ⟨S', hS', hs, ho⟩ := h
  exact ⟨S', hS', hs, hj.only ho ha, ho.mono (fun _ _ h => .inl h)⟩
theorem JLeaves.refl (hd : Stands S w p D) (hj : Jr t w a p J) : JLeaves t S w w a p D J := ⟨S, fun _ => .inl, hd, hj, Only.refl _ _⟩
theorem JLeaves.next (hS1 : ∀ k, S1 k → S k ∨ w.heap.size ≤ k) (ho : Only (fun k => S k ∨ k = a) w w1) (h : JLeaves t S1 w1 w2 a p D2 J2) : JLeaves t S w w2 a p D2 J2 := by
  obtain ⟨S2, hS2, hs, hj, ho2⟩ := h
  refine ⟨S2, fun k hk => ?_, hs, hj, ho.trans ho2 (fun i hi h1 => ?_)⟩
  · rcases hS2 k hk with h | h
    · exact hS1 k h
    · exact .inr (Nat.le_trans ho.size h)
  · rcases h1 with h1 | h1
    · rcases hS1 i h1 with h | h
      · exact .inl h
      · omega
    · exact .inr h1
theorem JLeaves.below (h : JLeaves t S w w1 a p D1 J1) (hb : Below w1.heap.size w1 w2) : JLeaves t S w w2 a p D1 J1 := by
  obtain ⟨S2, hS2, hs, hj, ho2⟩ := h
  exact ⟨S2, hS2, hs.below hb, hj.below hb, ho2.trans (Only.of_below (fun _ => False) hb (Nat.le_refl _)) (fun _ _ f => f.elim)⟩
theorem JLeaves.from (hb : Below w.heap.size w w1) (h : JLeaves t S w1 w2 a p D2 J2) : JLeaves t S w w2 a p D2 J2 :=
  JLeaves.next (fun _ h => .inl h) (Only.of_below _ hb (Nat.le_refl _)) h

/-- A slice of one write, made for a call. -/
theorem one_write (w : World) (i : Int) (s : ByteArray) : SlW (w.alloc (.cells #[.int .i64 i, .string s] 73)) (.slice (some ⟨w.heap.size, 0, none⟩) 1 1) [(i, s)] := by
  refine ⟨_, 1, rfl, Nat.le_refl _, .inr ⟨w.heap.size, 0, rfl, by simp, fun j hj => ?_⟩⟩
  obtain rfl : j = 0 := by simpa using hj
  exact ⟨by rw [cell_at (heap_alloc_new ..)]; rfl, by rw [cell_at (heap_alloc_new ..)]; rfl⟩

/-- settle of one write that was made for it. -/
theorem settle_one (i : Int) (s : ByteArray) (hj : Jr 79 w a p J) (hd : Stands S w p D) (ha : ¬ S a) (hp : D.pend.length ≤ 900000) :
    Calls Tryz.prog 51 #[.pointer (some ⟨a, 0, none⟩), .slice (some ⟨w.heap.size, 0, none⟩) 1 1] (w.alloc (.cells #[.int .i64 i, .string s] 73)) fun e w' => e = .returned (.int .i64 (D.stl [(i, s)]).1) ∧ Leaves S w w' p (D.stl [(i, s)]).2 := by
  have hb : Below w.heap.size w (w.alloc (.cells #[.int .i64 i, .string s] 73)) := (Below.refl _ _).alloc (Nat.le_refl _) _
  refine (jsettle_any (hj.below hb) (hd.below hb) ha (by simp) hp (one_write w i s) ?_).mono fun e w' ⟨he, hl⟩ => ⟨he, Leaves.from hb hl⟩
  intro g off n c hv hg
  cases hv
  have := hd.lt _ hg
  omega

/-- What the last statement of a checkpoint stores. -/
abbrev ckW (w : World) (a E nx lg q sd : Nat) : World := ((((((w.setCell ⟨a, 1, none⟩ (.int .u64 (E : Int))).setCell ⟨a, 2, none⟩ (.int .u64 (nx : Int))).setCell ⟨a, 3, none⟩ (.int .i64 (lg : Int))).setCell ⟨a, 4, none⟩ (.int .i64 (q : Int))).setCell ⟨a, 5, none⟩ (.int .i64 (sd : Int))).setCell ⟨a, 7, none⟩ (.int .i64 0)).drew
theorem ck_only (w : World) (a E nx lg q sd : Nat) : Only (fun k => k = a) w (ckW w a E nx lg q sd) :=
  (((((((Only.refl (fun k => k = a) w).setCell (p := ⟨a, 1, none⟩) (fun _ => rfl) _).setCell (p := ⟨a, 2, none⟩) (fun _ => rfl) _).setCell (p := ⟨a, 3, none⟩) (fun _ => rfl) _).setCell (p := ⟨a, 4, none⟩) (fun _ => rfl) _).setCell (p := ⟨a, 5, none⟩) (fun _ => rfl) _).setCell (p := ⟨a, 7, none⟩) (fun _ => rfl) _).drew
theorem Jr.drew (h : Jr t w a p J) : Jr t w.drew a p J := by unfold Jr at *; exact h
theorem Jr.ck (h : Jr t w a p J) (E q sd : Nat) : Jr t (ckW w a E J.next J.log q sd) a p ⟨E, J.next, J.log, q, sd, J.next, 0⟩ := by
  have h1 := h.put (J' := { J with e := E }) (i := 1) (v := .int .u64 (E : Int)) (by simp [JCells])
  have h2 := h1.put (J' := { J with e := E, s := J.next }) (i := 2) (v := .int .u64 (J.next : Int)) (by simp [JCells])
  have h3 := h2.put (J' := { J with e := E, s := J.next }) (i := 3) (v := .int .i64 (J.log : Int)) (by simp [JCells])
  have h4 := h3.put (J' := { J with e := E, s := J.next, p := q }) (i := 4) (v := .int .i64 (q : Int)) (by simp [JCells])
  have h5 := h4.put (J' := { J with e := E, s := J.next, p := q, side := sd }) (i := 5) (v := .int .i64 (sd : Int)) (by simp [JCells])
  exact (h5.put (J' := ⟨E, J.next, J.log, q, sd, J.next, 0⟩) (i := 7) (v := .int .i64 0) (by simp [JCells])).drew
/-- The cells that the last statements of a checkpoint read. -/
abbrev CkS (a g sd E nx lg q : Nat) (W : World) : Prop := W.cell? ⟨a, 5, none⟩ = some (.int .i64 (sd : Int)) ∧ W.cell? ⟨g, 0, none⟩ = some (.int .u64 (E : Int)) ∧ W.cell? ⟨g, 1, none⟩ = some (.int .u64 (nx : Int)) ∧ W.cell? ⟨g, 2, none⟩ = some (.int .i64 (lg : Int)) ∧ W.cell? ⟨g, 3, none⟩ = some (.int .i64 (q : Int))

set_option maxRecDepth 100000 in
set_option maxHeartbeats 2000000 in
theorem ckp_any (hj : Jr 79 w a p J) (hd : Stands S w p D) (ha : ¬ S a) (ok : J.Ok D.disk.length) (hp : D.pend.length ≤ 800000) :
    Calls Tryz.prog 37 #[.pointer (some ⟨a, 0, none⟩)] w fun e w' => e = .returned (.int .i64 (J.ckp D).1) ∧ JLeaves 79 S w w' a p (J.ckp D).2.1 (J.ckp D).2.2 := by
  have hn := hd.ok.few
  have CB := Lib.hid (behind_any 0 hj ok hn (by have := ok.fu; omega))
  have HJ := Lib.hid hj; clear hj
  have HD := Lib.hid hd; clear hd
  have HA := Lib.hid ha; clear ha
  have HOK := Lib.hid ok; clear ok
  go_enter Tryz.func37, Tryz.ntmps37
  go_wp2_with fail
  refine CB.out.mono ?_
  rintro e w1 ⟨rfl, hb1⟩
  have HB1 := Lib.hid hb1; clear hb1
  go_wp2_with fail
  refine (jnoughts_all _).mono ?_
  rintro e w2 ⟨rfl, hb2⟩
  have HB2 := Lib.hid (HB1.out.trans (hb2.mono HB1.out.size)); clear hb2 HB1
  go_wp2_with fail
  obtain ⟨R1, hR1⟩ : ∃ R, D.stl [(((J.pos 0 : Nat) : Int), noughts)] = R := ⟨_, rfl⟩
  have C1 := Lib.hid (settle_one ((J.pos 0 : Nat) : Int) noughts (HJ.out.below HB2.out) (HD.out.below HB2.out) HA.out (by omega))
  rw [hR1] at C1
  have HL1 : Hid (R1.2.pend.length ≤ 850000 ∧ R1.2.disk.length = D.disk.length) := by
    rw [← hR1]; have := D.stl_len [(((J.pos 0 : Nat) : Int), noughts)]; exact ⟨by simp at this; omega, D.stl_disk _⟩
  have HCk : Hid (J.ckp D = if R1.1 ≠ 0 then (R1.1, R1.2, J) else
      if (R1.2.stl [(((1 - J.side : Nat) : Int), slotB ((J.e + 1) % 18446744073709551616) J.next J.log (J.pos 0 - 2))]).1 ≠ 0 then ((R1.2.stl [(((1 - J.side : Nat) : Int), slotB ((J.e + 1) % 18446744073709551616) J.next J.log (J.pos 0 - 2))]).1, (R1.2.stl [(((1 - J.side : Nat) : Int), slotB ((J.e + 1) % 18446744073709551616) J.next J.log (J.pos 0 - 2))]).2, J)
      else (0, (R1.2.stl [(((1 - J.side : Nat) : Int), slotB ((J.e + 1) % 18446744073709551616) J.next J.log (J.pos 0 - 2))]).2, J.next')) := by
    show J.ckp D = _
    rw [← hR1]; rfl
  clear hR1 CB
  obtain ⟨er1, D1⟩ := R1
  simp only at C1 HL1 HCk
  refine C1.out.mono ?_
  rintro e w3 ⟨rfl, hv3⟩
  have HV3 := Lib.hid (Leaves.from HB2.out hv3); clear hv3 C1 HB2
  by_cases he1 : er1 = 0
  · have he1' : (er1 != 0) = false := by simp [he1]
    rw [if_neg (by simpa using he1)] at HCk
    obtain ⟨S3, hS3, hs3, ho3⟩ := HV3.out
    have hna : ¬ S3 a := fun h => by rcases hS3 a h with h | h; exact HA.out h; have := HJ.out.lt; omega
    have hj3 := HJ.out.only ho3 HA.out
    have hok3 : J.Ok D1.disk.length := by rw [HL1.out.2]; exact HOK.out
    have c1 := hj3.c1; have c3 := hj3.c3; have c5 := hj3.c5; have c6 := hj3.c6
    have CB3 : Hid (∀ W, Below w3.heap.size w3 W → Calls Tryz.prog 66 #[.pointer (some ⟨a, 0, none⟩), .int .i64 0] W fun e w' => e = .returned (.int .i64 (J.pos 0)) ∧ w' = W.drew) := fun W hW =>
      behind_drew 0 (hj3.below hW) hok3 (by rw [HL1.out.2]; exact hn) (by have := HOK.out.fu; omega)
    have hal := hj3.lt
    have HS3 := Lib.hid hS3; have HSt3 := Lib.hid hs3; have HO3 := Lib.hid ho3; have HJ3 := Lib.hid hj3; have HNA := Lib.hid hna
    clear hS3 hs3 ho3 hj3 hna hok3
    have hp2 := HOK.out.pos_lt 0
    have hll := HOK.out.l1
    obtain ⟨ps, hps⟩ : ∃ x, J.pos 0 = x := ⟨_, rfl⟩
    rw [hps] at CB3 HCk hp2
    have HPS := Lib.hid hps; clear hps
    obtain ⟨E, hE⟩ : ∃ x : Nat, (J.e + 1) % 18446744073709551616 = x := ⟨_, rfl⟩
    have wE : IntKind.u64.wrap ((J.e : Int) + 1) = (E : Int) := by rw [← hE]; simp [IntKind.wrap, IntKind.bits, IntKind.signed]
    rw [hE] at HCk
    have HE := Lib.hid hE; clear hE
    obtain ⟨q, hq⟩ : ∃ q, ps = 2 + q := ⟨ps - 2, by omega⟩
    subst hq
    rw [Nat.add_sub_cancel_left] at HCk
    have wq : IntKind.i64.wrap (2 + (q : Int) - 2) = (q : Int) := by rw [show 2 + (q : Int) - 2 = (q : Int) by omega]; exact IntWalk.i64_in _ (by omega)
    go_wp2_with fail
    have hal' : w3.heap.size ≠ a := by omega
    go_region_held3 (fun W => W.cell? ⟨a, 1, none⟩ = some (.int .u64 J.e) ∧ W.cell? ⟨a, 3, none⟩ = some (.int .i64 J.log) ∧ W.cell? ⟨a, 6, none⟩ = some (.int .u64 J.next))
      (first | exact ⟨c1, c3, c6⟩ | go_keep)
      (first | (go_at_call 66; refine (CB3.out _ ?_).mono ?_; (first | exact (Below.refl _ _).drew | exact ((Below.refl _ _).drew).alloc (Nat.le_refl _) _); rintro e w' ⟨rfl, rfl⟩))
    all_goals
      obtain ⟨X, hX⟩ : ∃ X, (w3.alloc (.cells #[.int .u64 (E : Int), .int .u64 (J.next : Int), .int .i64 (J.log : Int), .int .i64 (q : Int)] 77)).drew.drew = X := ⟨_, rfl⟩
      rw [hX]
      have hXb : Below w3.heap.size w3 X := by rw [← hX]; exact (((Below.refl _ _).alloc (Nat.le_refl _) _).drew).drew
      have hXh : X.heap[w3.heap.size]? = some (.cells #[.int .u64 (E : Int), .int .u64 (J.next : Int), .int .i64 (J.log : Int), .int .i64 (q : Int)] 77 (0, 0)) := by rw [← hX]; exact heap_alloc_new ..
      have hXz : w3.heap.size < X.heap.size := (Array.getElem?_eq_some_iff.1 hXh).1
      clear hX
      have y0 : X.cell? ⟨w3.heap.size, 0, none⟩ = some (.int .u64 (E : Int)) := by rw [cell_at hXh]; rfl
      have y1 : X.cell? ⟨w3.heap.size, 1, none⟩ = some (.int .u64 (J.next : Int)) := by rw [cell_at hXh]; rfl
      have y2 : X.cell? ⟨w3.heap.size, 2, none⟩ = some (.int .i64 (J.log : Int)) := by rw [cell_at hXh]; rfl
      have y3 : X.cell? ⟨w3.heap.size, 3, none⟩ = some (.int .i64 (q : Int)) := by rw [cell_at hXh]; rfl
      have y5 : X.cell? ⟨a, 5, none⟩ = some (.int .i64 J.side) := (hXb.cell (p := ⟨a, 5, none⟩) hal).trans c5
      have hsi := HOK.out.si
      have hE64 : E < 18446744073709551616 := by rw [← HE.out]; exact Nat.mod_lt _ (by omega)
      have CT : Hid (∀ W, Calls Tryz.prog 52 #[.agg #[.int .u64 (E : Int), .int .u64 (J.next : Int), .int .i64 (J.log : Int), .int .i64 (q : Int)]] W fun r w' => r = .returned (.string (slotB E J.next J.log q)) ∧ Below W.heap.size W w') :=
        fun W => text_any E J.next J.log q W hE64 HOK.out.n64 (by omega) (by omega)
      have w1s : (1 : Int) - (J.side : Int) = ((1 - J.side : Nat) : Int) := by omega
      have w1s' : IntKind.i64.wrap ((1 : Int) - (J.side : Int)) = ((1 - J.side : Nat) : Int) := by rw [w1s]; exact IntWalk.i64_in _ (by omega)
      have HXh := Lib.hid hXh; have HXb := Lib.hid hXb
      clear hXh hXb c1 c3 c5 c6 wE wq w1s
      generalize slotB E J.next J.log q = tt at *
      obtain ⟨R2, hR2⟩ : ∃ R, D1.stl [(((1 - J.side : Nat) : Int), tt)] = R := ⟨_, rfl⟩
      rw [hR2] at HCk
      have CS : Hid (∀ W, Below X.heap.size X W → Calls Tryz.prog 51 #[.pointer (some ⟨a, 0, none⟩), .slice (some ⟨W.heap.size, 0, none⟩) 1 1] (W.alloc (.cells #[.int .i64 ((1 - J.side : Nat) : Int), .string tt] 73)) fun e w' => e = .returned (.int .i64 R2.1) ∧ Leaves S3 X w' p R2.2) := by
        intro W hW
        have hb := HXb.out.trans (hW.mono HXb.out.size)
        rw [← hR2]
        exact (settle_one _ tt (HJ3.out.below hb) (HSt3.out.below hb) HNA.out (by have := HL1.out.1; omega)).mono fun e w' ⟨he, hl⟩ => ⟨he, Leaves.from hW hl⟩
      clear hR2
      have HCells : Hid (∀ W : World, W.heap[w3.heap.size]? = X.heap[w3.heap.size]? → W.cell? ⟨a, 5, none⟩ = X.cell? ⟨a, 5, none⟩ → CkS a w3.heap.size J.side E J.next J.log q W) := by
        intro W h1 h2
        have h := h1.trans HXh.out
        exact ⟨h2.trans y5, by rw [cell_at h]; rfl, by rw [cell_at h]; rfl, by rw [cell_at h]; rfl, by rw [cell_at h]; rfl⟩
      have hXa : a < X.heap.size := by omega
      have HKT : Hid (∀ W, Below X.heap.size X W → CkS a w3.heap.size J.side E J.next J.log q W) := fun W hW => HCells.out W (hW.block _ hXz) (hW.cell (p := ⟨a, 5, none⟩) hXa)
      have HKA : Hid (∀ W o, Below X.heap.size X W → CkS a w3.heap.size J.side E J.next J.log q (W.alloc o)) := fun W o hW => HKT.out (W.alloc o) (hW.alloc hW.size o)
      have HKL : Hid (∀ w' D', Leaves S3 X w' p D' → CkS a w3.heap.size J.side E J.next J.log q w') := fun w' D' h => HCells.out w' (h.only.block _ hXz (fun hs => by have := HSt3.out.lt _ hs; omega)) (h.only.cell (p := ⟨a, 5, none⟩) hXa HNA.out)
      obtain ⟨er2, D2⟩ := R2
      simp only at CS HCk
      go_wp2_with fail
      go_region_held3 (fun W => W.cell? ⟨a, 5, none⟩ = some (.int .i64 J.side) ∧ W.cell? ⟨w3.heap.size, 0, none⟩ = some (.int .u64 (E : Int)) ∧ W.cell? ⟨w3.heap.size, 1, none⟩ = some (.int .u64 (J.next : Int)) ∧ W.cell? ⟨w3.heap.size, 2, none⟩ = some (.int .i64 (J.log : Int)) ∧ W.cell? ⟨w3.heap.size, 3, none⟩ = some (.int .i64 (q : Int)))
        (first | exact ⟨y5, y0, y1, y2, y3⟩ | exact HKT.out _ (by assumption) | exact HKA.out _ _ (by assumption) | exact HKL.out _ _ (by assumption))
        (first | (go_at_call 52; refine (CT.out _).mono ?_; rintro r w5 ⟨rfl, hb5'⟩; have hb5 := Fr.below_predrew hb5'; clear hb5')
               | (go_at_call 51; refine (CS.out _ hb5).mono ?_; rintro r w6 ⟨rfl, hv6⟩))
      rename_i hHeld
      obtain ⟨_, y0', y1', y2', y3'⟩ := hHeld
      have hl6 := Leaves.from HXb.out hv6
      have hj6 := HJ3.out.only hl6.only HNA.out
      obtain ⟨S6, hS6, hs6, ho6⟩ := hl6
      have hna6 : ¬ S6 a := fun h => by rcases hS6 a h with h | h; exact HNA.out h; omega
      clear hv6 hb5 y0 y1 y2 y3 y5
      by_cases he2 : er2 = 0
      · have he2' : (er2 != 0) = false := by simp [he2]
        rw [if_neg (by simpa using he2)] at HCk
        have c1 := hj6.c1; have c2 := hj6.c2; have c3 := hj6.c3; have c4 := hj6.c4; have c5 := hj6.c5; have c7 := hj6.c7
        have f1 := hj6.f 1; have f2 := hj6.f 2; have f3 := hj6.f 3; have f4 := hj6.f 4; have f5 := hj6.f 5; have f7 := hj6.f 7
        have HJ6 := Lib.hid hj6; clear hj6
        have HS6 := Lib.hid hS6; have HSt6 := Lib.hid hs6; have HO6 := Lib.hid ho6; have HN6 := Lib.hid hna6
        clear hS6 hs6 ho6 hna6
        go_wp2_with fail
        go_region
        go_wp2
        go_ret
        have hE' : J.next' = ⟨E, J.next, J.log, q, 1 - J.side, J.next, 0⟩ := by unfold JS.next'; rw [HE.out, HPS.out, Nat.add_sub_cancel_left]
        have hO := ck_only w6 a E J.next J.log q (1 - J.side)
        have hJ := HJ6.out.ck E q (1 - J.side)
        rw [← hE'] at hJ
        refine ⟨by rw [HCk.out]; rfl, ?_⟩
        rw [HCk.out]
        exact JLeaves.next HS3.out (HO3.out.mono (fun _ _ h => .inl h)) ⟨S6, HS6.out, HSt6.out.kept hO (fun k hk hka => HN6.out (hka ▸ hk)), hJ, (HO6.out.mono (T := fun k => S3 k ∨ k = a) (fun _ _ h => .inl h)).trans hO (fun _ _ h => .inr h)⟩
      · have he2' : (er2 != 0) = true := by simp [he2]
        rw [if_pos (by simpa using he2)] at HCk
        have HF : Hid (JLeaves 79 S w w6 a p D2 J) := JLeaves.next HS3.out (HO3.out.mono (fun _ _ h => .inl h)) (JLeaves.of ⟨S6, hS6, hs6, ho6⟩ HJ3.out HNA.out)
        clear hj6 hS6 hs6 ho6 hna6
        go_wp2
        go_ret
        exact ⟨by rw [HCk.out]; rfl, by rw [HCk.out]; exact HF.out⟩
  · have he1' : (er1 != 0) = true := by simp [he1]
    rw [if_pos (by simpa using he1)] at HCk
    have HF : Hid (JLeaves 79 S w w3 a p D1 J) := JLeaves.of HV3.out HJ.out HA.out
    go_wp2
    go_ret
    exact ⟨by rw [HCk.out]; rfl, by rw [HCk.out]; exact HF.out⟩
end
end Go.Proofs.YtepfcaopboenpaaGreat

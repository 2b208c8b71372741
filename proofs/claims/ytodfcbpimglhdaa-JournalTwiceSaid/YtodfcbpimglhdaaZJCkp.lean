/- What Checkpoint answers and leaves behind, for every journal over every device. -/
import Derived.Test.YtodfcbpimglhdaaZLOpenA
import Derived.Test.YtodfcbpimglhdaaZJSlot
import Derived.BigRegion

namespace Go.Proofs.Ytodfcbpimglhdaa
open Go.RowKit
open Fr (SlW WritesAt)

section
variable {t : TypeId} {S S1 T : Nat → Prop} {w w1 w2 w' : World} {a p : Nat} {J J1 J2 : JS} {D D1 D2 : DevS} {v : Value} {L : List (Int × ByteArray)}

/-- What a call that may write on a journal and its device leaves. -/
def JLeaves (t : TypeId) (S : Nat → Prop) (w w' : World) (a p : Nat) (D' : DevS) (J' : JS) : Prop :=
  ∃ S' : Nat → Prop, (∀ k, S' k → S k ∨ w.heap.size ≤ k) ∧ Stands S' w' p D' ∧ Jr t w' a p J' ∧ Only (fun k => S k ∨ k = a) w w'
theorem JLeaves.of (h : Leaves S w w' p D1) (hj : Jr t w a p J) (ha : ¬ S a) : JLeaves t S w w' a p D1 J := by
  obtain ⟨S', hS', hs, ho⟩ := h
  exact ⟨S', hS', hs, hj.only ho ha, ho.mono (fun _ _ h => .inl h)⟩
theorem JLeaves.refl (hd : Stands S w p D) (hj : Jr t w a p J) : JLeaves t S w w a p D J := ⟨S, fun _ => .inl, hd, hj, Only.refl _ _⟩
theorem JLeaves.next (hS1 : ∀ k, S1 k → S k ∨ w.heap.size ≤ k) (ho : Only (fun k => S k ∨ k = a) w w1) (h : JLeaves t S1 w1 w2 a p D2 J2) : JLeaves t S w w2 a p D2 J2 := by
  obtain ⟨S2, hS2, hs, hj, ho2⟩ := h
  refine ⟨S2, fun k hk => ?_, hs, hj, ho.trans ho2 (fun i hi h1 => ?_)⟩
  · rcases hS2 k hk with h | h
    · exact hS1 k h
    · exact .inr (Nat.le_trans ho.size h)
  · rcases h1 with h1 | h1
    · rcases hS1 i h1 with h | h
      · exact .inl h
      · omega
    · exact .inr h1
theorem JLeaves.below (h : JLeaves t S w w1 a p D1 J1) (hb : Below w1.heap.size w1 w2) : JLeaves t S w w2 a p D1 J1 := by
  obtain ⟨S2, hS2, hs, hj, ho2⟩ := h
  exact ⟨S2, hS2, hs.below hb, hj.below hb, ho2.trans (Only.of_below (fun _ => False) hb (Nat.le_refl _)) (fun _ _ f => f.elim)⟩
theorem JLeaves.from (hb : Below w.heap.size w w1) (h : JLeaves t S w1 w2 a p D2 J2) : JLeaves t S w w2 a p D2 J2 :=
  JLeaves.next (fun _ h => .inl h) (Only.of_below _ hb (Nat.le_refl _)) h

/-- A slice of one write, made for a call. -/
theorem one_write (w : World) (i : Int) (s : ByteArray) : SlW (w.alloc (.cells #[.int .i64 i, .string s] 71)) (.slice (some ⟨w.heap.size, 0, none⟩) 1 1) [(i, s)] := by
  refine ⟨_, 1, rfl, Nat.le_refl _, .inr ⟨w.heap.size, 0, rfl, by simp, fun j hj => ?_⟩⟩
  obtain rfl : j = 0 := by simpa using hj
  exact ⟨by rw [cell_at (heap_alloc_new ..)]; rfl, by rw [cell_at (heap_alloc_new ..)]; rfl⟩

/-- settle of one write that was made for it. -/
theorem settle_one (i : Int) (s : ByteArray) (hj : Jr 85 w a p J) (hd : Stands S w p D) (ha : ¬ S a) (hp : D.pend.length ≤ 900000) :
    Calls Try.prog 56 #[.pointer (some ⟨a, 0, none⟩), .slice (some ⟨w.heap.size, 0, none⟩) 1 1] (w.alloc (.cells #[.int .i64 i, .string s] 71)) fun e w' => e = .returned (.int .i64 (D.stl [(i, s)]).1) ∧ Leaves S w w' p (D.stl [(i, s)]).2 := by
  have hb : Below w.heap.size w (w.alloc (.cells #[.int .i64 i, .string s] 71)) := (Below.refl _ _).alloc (Nat.le_refl _) _
  refine (jsettle_any (hj.below hb) (hd.below hb) ha (by simp) hp (one_write w i s) ?_).mono fun e w' ⟨he, hl⟩ => ⟨he, Leaves.from hb hl⟩
  intro g off n c hv hg
  cases hv
  have := hd.lt _ hg
  omega

/-- What the last statement of a checkpoint stores. -/
abbrev ckW (w : World) (a E nx lg q sd : Nat) : World := ((((((w.setCell ⟨a, 1, none⟩ (.int .u64 (E : Int))).setCell ⟨a, 2, none⟩ (.int .u64 (nx : Int))).setCell ⟨a, 3, none⟩ (.int .i64 (lg : Int))).setCell ⟨a, 4, none⟩ (.int .i64 (q : Int))).setCell ⟨a, 5, none⟩ (.int .i64 (sd : Int))).setCell ⟨a, 7, none⟩ (.int .i64 0)).drew
theorem ck_only (w : World) (a E nx lg q sd : Nat) : Only (fun k => k = a) w (ckW w a E nx lg q sd) :=
  (((((((Only.refl (fun k => k = a) w).setCell (p := ⟨a, 1, none⟩) (fun _ => rfl) _).setCell (p := ⟨a, 2, none⟩) (fun _ => rfl) _).setCell (p := ⟨a, 3, none⟩) (fun _ => rfl) _).setCell (p := ⟨a, 4, none⟩) (fun _ => rfl) _).setCell (p := ⟨a, 5, none⟩) (fun _ => rfl) _).setCell (p := ⟨a, 7, none⟩) (fun _ => rfl) _).drew
theorem Jr.drew (h : Jr t w a p J) : Jr t w.drew a p J := by unfold Jr at *; exact h
theorem Jr.ck (h : Jr t w a p J) (E q sd : Nat) : Jr t (ckW w a E J.next J.log q sd) a p ⟨E, J.next, J.log, q, sd, J.next, 0⟩ := by
  have h1 := h.put (J' := { J with e := E }) (i := 1) (v := .int .u64 (E : Int)) (by simp [JCells])
  have h2 := h1.put (J' := { J with e := E, s := J.next }) (i := 2) (v := .int .u64 (J.next : Int)) (by simp [JCells])
  have h3 := h2.put (J' := { J with e := E, s := J.next }) (i := 3) (v := .int .i64 (J.log : Int)) (by simp [JCells])
  have h4 := h3.put (J' := { J with e := E, s := J.next, p := q }) (i := 4) (v := .int .i64 (q : Int)) (by simp [JCells])
  have h5 := h4.put (J' := { J with e := E, s := J.next, p := q, side := sd }) (i := 5) (v := .int .i64 (sd : Int)) (by simp [JCells])
  exact (h5.put (J' := ⟨E, J.next, J.log, q, sd, J.next, 0⟩) (i := 7) (v := .int .i64 0) (by simp [JCells])).drew
/-- The cells that the last statements of a checkpoint read. -/
abbrev CkS (a g sd E nx lg q : Nat) (W : World) : Prop := W.cell? ⟨a, 5, none⟩ = some (.int .i64 (sd : Int)) ∧ W.cell? ⟨g, 0, none⟩ = some (.int .u64 (E : Int)) ∧ W.cell? ⟨g, 1, none⟩ = some (.int .u64 (nx : Int)) ∧ W.cell? ⟨g, 2, none⟩ = some (.int .i64 (lg : Int)) ∧ W.cell? ⟨g, 3, none⟩ = some (.int .i64 (q : Int))

set_option maxRecDepth 100000 in
set_option maxHeartbeats 2000000 in
theorem ckp_any (hj : Jr 85 w a p J) (hd : Stands S w p D) (ha : ¬ S a) (ok : J.Ok D.disk.length) (hp : D.pend.length ≤ 800000) :
    Calls Try.prog 35 #[.pointer (some ⟨a, 0, none⟩)] w fun e w' => e = .returned (.int .i64 (J.ckp D).1) ∧ JLeaves 85 S w w' a p (J.ckp D).2.1 (J.ckp D).2.2 := by
  have hn := hd.ok.few
  have CB := Lib.hid (behind_any 0 hj ok hn (by have := ok.fu; omega))
  have HJ := Lib.hid hj; clear hj
  have HD := Lib.hid hd; clear hd
  have HA := Lib.hid ha; clear ha
  have HOK := Lib.hid ok; clear ok
  go_enter Try.func35, Try.ntmps35
  go_wp2_with fail
  refine CB.out.mono ?_
  rintro e w1 ⟨rfl, hb1⟩
  have HB1 := Lib.hid hb1; clear hb1
  go_wp2_with fail
  refine (jnoughts_all _).mono ?_
  rintro e w2 ⟨rfl, hb2⟩
  have HB2 := Lib.hid (HB1.out.trans (hb2.mono HB1.out.size)); clear hb2 HB1
  go_wp2_with fail
  obtain ⟨R1, hR1⟩ : ∃ R, D.stl [(((J.pos 0 : Nat) : Int), noughts)] = R := ⟨_, rfl⟩
  have C1 := Lib.hid (settle_one ((J.pos 0 : Nat) : Int) noughts (HJ.out.below HB2.out) (HD.out.below HB2.out) HA.out (by omega))
  rw [hR1] at C1
  have HL1 : Hid (R1.2.pend.length ≤ 850000 ∧ R1.2.disk.length = D.disk.length) := by
    rw [← hR1]; have := D.stl_len [(((J.pos 0 : Nat) : Int), noughts)]; exact ⟨by simp at this; omega, D.stl_disk _⟩
  have HCk : Hid (J.ckp D = if R1.1 ≠ 0 then (R1.1, R1.2, J) else
      if (R1.2.stl [(((1 - J.side : Nat) : Int), slotB ((J.e + 1) % 18446744073709551616) J.next J.log (J.pos 0 - 2))]).1 ≠ 0 then ((R1.2.stl [(((1 - J.side : Nat) : Int), slotB ((J.e + 1) % 18446744073709551616) J.next J.log (J.pos 0 - 2))]).1, (R1.2.stl [(((1 - J.side : Nat) : Int), slotB ((J.e + 1) % 18446744073709551616) J.next J.log (J.pos 0 - 2))]).2, J)
      else (0, (R1.2.stl [(((1 - J.side : Nat) : Int), slotB ((J.e + 1) % 18446744073709551616) J.next J.log (J.pos 0 - 2))]).2, J.next')) := by
    show J.ckp D = _
    rw [← hR1]; rfl
  clear hR1 CB
  obtain ⟨er1, D1⟩ := R1
  simp only at C1 HL1 HCk
  refine C1.out.mono ?_
  rintro e w3 ⟨rfl, hv3⟩
  have HV3 := Lib.hid (Leaves.from HB2.out hv3); clear hv3 C1 HB2
  by_cases he1 : er1 = 0
  · have he1' : (er1 != 0) = false := by simp [he1]
    rw [if_neg (by simpa using he1)] at HCk
    obtain ⟨S3, hS3, hs3, ho3⟩ := HV3.out
    have hna : ¬ S3 a := fun h => by rcases hS3 a h with h | h; exact HA.out h; have := HJ.out.lt; omega
    have hj3 := HJ.out.only ho3 HA.out
    have hok3 : J.Ok D1.disk.length := by rw [HL1.out.2]; exact HOK.out
    have c1 := hj3.c1; have c3 := hj3.c3; have c5 := hj3.c5; have c6 := hj3.c6
    have CB3 : Hid (∀ W, Below w3.heap.size w3 W → Calls Try.prog 67 #[.pointer (some ⟨a, 0, none⟩), .int .i64 0] W fun e w' => e = .returned (.int .i64 (J.pos 0)) ∧ w' = W.drew) := fun W hW =>
      behind_drew 0 (hj3.below hW) hok3 (by rw [HL1.out.2]; exact hn) (by have := HOK.out.fu; omega)
    have hal := hj3.lt
    have HS3 := Lib.hid hS3; have HSt3 := Lib.hid hs3; have HO3 := Lib.hid ho3; have HJ3 := Lib.hid hj3; have HNA := Lib.hid hna
    clear hS3 hs3 ho3 hj3 hna hok3
    have hp2 := HOK.out.pos_lt 0
    have hll := HOK.out.l1
    obtain ⟨ps, hps⟩ : ∃ x, J.pos 0 = x := ⟨_, rfl⟩
    rw [hps] at CB3 HCk hp2
    have HPS := Lib.hid hps; clear hps
    obtain ⟨E, hE⟩ : ∃ x : Nat, (J.e + 1) % 18446744073709551616 = x := ⟨_, rfl⟩
    have wE : IntKind.u64.wrap ((J.e : Int) + 1) = (E : Int) := by rw [← hE]; simp [IntKind.wrap, IntKind.bits, IntKind.signed]
    rw [hE] at HCk
    have HE := Lib.hid hE; clear hE
    obtain ⟨q, hq⟩ : ∃ q, ps = 2 + q := ⟨ps - 2, by omega⟩
    subst hq
    rw [Nat.add_sub_cancel_left] at HCk
    have wq : IntKind.i64.wrap (2 + (q : Int) - 2) = (q : Int) := by rw [show 2 + (q : Int) - 2 = (q : Int) by omega]; exact IntWalk.i64_in _ (by omega)
    go_wp2_with fail
    have hal' : w3.heap.size ≠ a := by omega
    go_region_held3 (fun W => W.cell? ⟨a, 1, none⟩ = some (.int .u64 J.e) ∧ W.cell? ⟨a, 3, none⟩ = some (.int .i64 J.log) ∧ W.cell? ⟨a, 6, none⟩ = some (.int .u64 J.next))
      (first | exact ⟨c1, c3, c6⟩ | go_keep)
      (first | (go_at_call 67; refine (CB3.out _ ?_).mono ?_; (first | exact (Below.refl _ _).drew | exact ((Below.refl _ _).drew).alloc (Nat.le_refl _) _); rintro e w' ⟨rfl, rfl⟩))
    all_goals
      obtain ⟨X, hX⟩ : ∃ X, (w3.alloc (.cells #[.int .u64 (E : Int), .int .u64 (J.next : Int), .int .i64 (J.log : Int), .int .i64 (q : Int)] 83)).drew.drew = X := ⟨_, rfl⟩
      rw [hX]
      have hXb : Below w3.heap.size w3 X := by rw [← hX]; exact (((Below.refl _ _).alloc (Nat.le_refl _) _).drew).drew
      have hXh : X.heap[w3.heap.size]? = some (.cells #[.int .u64 (E : Int), .int .u64 (J.next : Int), .int .i64 (J.log : Int), .int .i64 (q : Int)] 83 (0, 0)) := by rw [← hX]; exact heap_alloc_new ..
      have hXz : w3.heap.size < X.heap.size := (Array.getElem?_eq_some_iff.1 hXh).1
      clear hX
      have y0 : X.cell? ⟨w3.heap.size, 0, none⟩ = some (.int .u64 (E : Int)) := by rw [cell_at hXh]; rfl
      have y1 : X.cell? ⟨w3.heap.size, 1, none⟩ = some (.int .u64 (J.next : Int)) := by rw [cell_at hXh]; rfl
      have y2 : X.cell? ⟨w3.heap.size, 2, none⟩ = some (.int .i64 (J.log : Int)) := by rw [cell_at hXh]; rfl
      have y3 : X.cell? ⟨w3.heap.size, 3, none⟩ = some (.int .i64 (q : Int)) := by rw [cell_at hXh]; rfl
      have y5 : X.cell? ⟨a, 5, none⟩ = some (.int .i64 J.side) := (hXb.cell (p := ⟨a, 5, none⟩) hal).trans c5
      have hsi := HOK.out.si
      have hE64 : E < 18446744073709551616 := by rw [← HE.out]; exact Nat.mod_lt _ (by omega)
      have CT : Hid (∀ W, Calls Try.prog 57 #[.agg #[.int .u64 (E : Int), .int .u64 (J.next : Int), .int .i64 (J.log : Int), .int .i64 (q : Int)]] W fun r w' => r = .returned (.string (slotB E J.next J.log q)) ∧ Below W.heap.size W w') :=
        fun W => text_any E J.next J.log q W hE64 HOK.out.n64 (by omega) (by omega)
      have w1s : (1 : Int) - (J.side : Int) = ((1 - J.side : Nat) : Int) := by omega
      have w1s' : IntKind.i64.wrap ((1 : Int) - (J.side : Int)) = ((1 - J.side : Nat) : Int) := by rw [w1s]; exact IntWalk.i64_in _ (by omega)
      have HXh := Lib.hid hXh; have HXb := Lib.hid hXb
      clear hXh hXb c1 c3 c5 c6 wE wq w1s
      generalize slotB E J.next J.log q = tt at *
      obtain ⟨R2, hR2⟩ : ∃ R, D1.stl [(((1 - J.side : Nat) : Int), tt)] = R := ⟨_, rfl⟩
      rw [hR2] at HCk
      have CS : Hid (∀ W, Below X.heap.size X W → Calls Try.prog 56 #[.pointer (some ⟨a, 0, none⟩), .slice (some ⟨W.heap.size, 0, none⟩) 1 1] (W.alloc (.cells #[.int .i64 ((1 - J.side : Nat) : Int), .string tt] 71)) fun e w' => e = .returned (.int .i64 R2.1) ∧ Leaves S3 X w' p R2.2) := by
        intro W hW
        have hb := HXb.out.trans (hW.mono HXb.out.size)
        rw [← hR2]
        exact (settle_one _ tt (HJ3.out.below hb) (HSt3.out.below hb) HNA.out (by have := HL1.out.1; omega)).mono fun e w' ⟨he, hl⟩ => ⟨he, Leaves.from hW hl⟩
      clear hR2
      have HCells : Hid (∀ W : World, W.heap[w3.heap.size]? = X.heap[w3.heap.size]? → W.cell? ⟨a, 5, none⟩ = X.cell? ⟨a, 5, none⟩ → CkS a w3.heap.size J.side E J.next J.log q W) := by
        intro W h1 h2
        have h := h1.trans HXh.out
        exact ⟨h2.trans y5, by rw [cell_at h]; rfl, by rw [cell_at h]; rfl, by rw [cell_at h]; rfl, by rw [cell_at h]; rfl⟩
      have hXa : a < X.heap.size := by omega
      have HKT : Hid (∀ W, Below X.heap.size X W → CkS a w3.heap.size J.side E J.next J.log q W) := fun W hW => HCells.out W (hW.block _ hXz) (hW.cell (p := ⟨a, 5, none⟩) hXa)
      have HKA : Hid (∀ W o, Below X.heap.size X W → CkS a w3.heap.size J.side E J.next J.log q (W.alloc o)) := fun W o hW => HKT.out (W.alloc o) (hW.alloc hW.size o)
      have HKL : Hid (∀ w' D', Leaves S3 X w' p D' → CkS a w3.heap.size J.side E J.next J.log q w') := fun w' D' h => HCells.out w' (h.only.block _ hXz (fun hs => by have := HSt3.out.lt _ hs; omega)) (h.only.cell (p := ⟨a, 5, none⟩) hXa HNA.out)
      obtain ⟨er2, D2⟩ := R2
      simp only at CS HCk
      go_wp2_with fail
      go_region_held3 (fun W => W.cell? ⟨a, 5, none⟩ = some (.int .i64 J.side) ∧ W.cell? ⟨w3.heap.size, 0, none⟩ = some (.int .u64 (E : Int)) ∧ W.cell? ⟨w3.heap.size, 1, none⟩ = some (.int .u64 (J.next : Int)) ∧ W.cell? ⟨w3.heap.size, 2, none⟩ = some (.int .i64 (J.log : Int)) ∧ W.cell? ⟨w3.heap.size, 3, none⟩ = some (.int .i64 (q : Int)))
        (first | exact ⟨y5, y0, y1, y2, y3⟩ | exact HKT.out _ (by assumption) | exact HKA.out _ _ (by assumption) | exact HKL.out _ _ (by assumption))
        (first | (go_at_call 57; refine (CT.out _).mono ?_; rintro r w5 ⟨rfl, hb5'⟩; have hb5 := Fr.below_predrew hb5'; clear hb5')
               | (go_at_call 56; refine (CS.out _ hb5).mono ?_; rintro r w6 ⟨rfl, hv6⟩))
      rename_i hHeld
      obtain ⟨_, y0', y1', y2', y3'⟩ := hHeld
      have hl6 := Leaves.from HXb.out hv6
      have hj6 := HJ3.out.only hl6.only HNA.out
      obtain ⟨S6, hS6, hs6, ho6⟩ := hl6
      have hna6 : ¬ S6 a := fun h => by rcases hS6 a h with h | h; exact HNA.out h; omega
      clear hv6 hb5 y0 y1 y2 y3 y5
      by_cases he2 : er2 = 0
      · have he2' : (er2 != 0) = false := by simp [he2]
        rw [if_neg (by simpa using he2)] at HCk
        have c1 := hj6.c1; have c2 := hj6.c2; have c3 := hj6.c3; have c4 := hj6.c4; have c5 := hj6.c5; have c7 := hj6.c7
        have f1 := hj6.f 1; have f2 := hj6.f 2; have f3 := hj6.f 3; have f4 := hj6.f 4; have f5 := hj6.f 5; have f7 := hj6.f 7
        have HJ6 := Lib.hid hj6; clear hj6
        have HS6 := Lib.hid hS6; have HSt6 := Lib.hid hs6; have HO6 := Lib.hid ho6; have HN6 := Lib.hid hna6
        clear hS6 hs6 ho6 hna6
        go_wp2_with fail
        go_region
        go_wp2
        go_ret
        have hE' : J.next' = ⟨E, J.next, J.log, q, 1 - J.side, J.next, 0⟩ := by unfold JS.next'; rw [HE.out, HPS.out, Nat.add_sub_cancel_left]
        have hO := ck_only w6 a E J.next J.log q (1 - J.side)
        have hJ := HJ6.out.ck E q (1 - J.side)
        rw [← hE'] at hJ
        refine ⟨by rw [HCk.out]; rfl, ?_⟩
        rw [HCk.out]
        exact JLeaves.next HS3.out (HO3.out.mono (fun _ _ h => .inl h)) ⟨S6, HS6.out, HSt6.out.kept hO (fun k hk hka => HN6.out (hka ▸ hk)), hJ, (HO6.out.mono (T := fun k => S3 k ∨ k = a) (fun _ _ h => .inl h)).trans hO (fun _ _ h => .inr h)⟩
      · have he2' : (er2 != 0) = true := by simp [he2]
        rw [if_pos (by simpa using he2)] at HCk
        have HF : Hid (JLeaves 85 S w w6 a p D2 J) := JLeaves.next HS3.out (HO3.out.mono (fun _ _ h => .inl h)) (JLeaves.of ⟨S6, hS6, hs6, ho6⟩ HJ3.out HNA.out)
        clear hj6 hS6 hs6 ho6 hna6
        go_wp2
        go_ret
        exact ⟨by rw [HCk.out]; rfl, by rw [HCk.out]; exact HF.out⟩
  · have he1' : (er1 != 0) = true := by simp [he1]
    rw [if_pos (by simpa using he1)] at HCk
    have HF : Hid (JLeaves 85 S w w3 a p D1 J) := JLeaves.of HV3.out HJ.out HA.out
    go_wp2
    go_ret
    exact ⟨by rw [HCk.out]; rfl, by rw [HCk.out]; exact HF.out⟩
end
end Go.Proofs.Ytodfcbpimglhdaa
/- What Unpack answers: what was packed, or why there is nothing. -/
namespace Go.Proofs.Ytodfcbpimglhdaa.Fr
open Go.RowKit

/-- The writes of a head, the first k with their data. -/
def filled (q : List UInt8) (n : Nat) (D : List ByteArray) (k : Nat) : List (Int × ByteArray) := (List.range n).map fun i => (((nmAt q (4 * i) : Nat) : Int), if i < k then D.getD i ⟨#[]⟩ else ⟨#[]⟩)
theorem filled_len (q : List UInt8) (n : Nat) (D : List ByteArray) (k : Nat) : (filled q n D k).length = n := by simp [filled]
theorem filled_zero (q : List UInt8) (n : Nat) (D : List ByteArray) : filled q n D 0 = takenL q n := by
  unfold filled takenL
  apply List.map_congr_left
  intro i _
  rw [if_neg (by omega)]
theorem filled_at (q : List UInt8) (n : Nat) (D : List ByteArray) (k i : Nat) (h : i < n) : (filled q n D k)[i]'(by rw [filled_len]; exact h) = (((nmAt q (4 * i) : Nat) : Int), if i < k then D.getD i ⟨#[]⟩ else ⟨#[]⟩) := by
  simp [filled]
theorem filled_set (q : List UInt8) (n : Nat) (D : List ByteArray) (k : Nat) (h : k < n) (hD : k < D.length) : (filled q n D k).set k (((filled q n D k)[k]'(by rw [filled_len]; exact h)).1, D[k]) = filled q n D (k + 1) := by
  apply List.ext_getElem
  · simp [filled_len]
  · intro i h1 h2
    rw [filled_len] at h2
    rw [filled_at q n D (k + 1) i h2, List.getElem_set]
    by_cases e : k = i
    · subst e
      rw [if_pos rfl]
      refine Prod.ext ?_ ?_
      · show ((filled q n D k)[k]'(by rw [filled_len]; exact h)).1 = _
        rw [filled_at q n D k k h]
      · show D[k] = if k < k + 1 then D.getD k ⟨#[]⟩ else ⟨#[]⟩
        rw [if_pos (by omega)]; simp [hD]
    · rw [if_neg e, filled_at q n D k i h2]
      by_cases hi : i < k
      · rw [if_pos hi, if_pos (by omega)]
      · rw [if_neg hi, if_neg (by omega)]
theorem OwnW.storeN {B : Nat} {w : World} {g c n : Nat} {L L' : List (Int × ByteArray)} (h : OwnW B w (.slice (some ⟨g, 0, none⟩) n c) L) (hn : L.length = n) (j : Nat) (hj : j < L.length) (s : ByteArray) (hL : L.set j (L[j].1, s) = L') :
    OwnW B (w.setCell ⟨g, j * 2 + 1, none⟩ (.string s)) (.slice (some ⟨g, 0, none⟩) n c) L' := by
  subst hn
  rw [← hL]; exact h.storeD j hj s
theorem filled_all (l : List UInt8) (D : List ByteArray) (hn : nmAt l 12 ≤ D.length) (h48 : nmAt l 12 ≤ 48) : filled ((l.take 248).drop 16) (nmAt l 12) D (nmAt l 12) = (blocksOf l).zip (D.take (nmAt l 12)) := by
  apply List.ext_getElem
  · rw [filled_len, List.length_zip, blocksOf_len, List.length_take]; omega
  · intro i h1 h2
    rw [filled_len] at h1
    rw [filled_at _ _ _ _ _ h1, if_pos h1, List.getElem_zip]
    refine Prod.ext ?_ ?_
    · simp only [blocksOf, List.getElem_map, List.getElem_range]
      rw [nmAt_drop, nmAt_take _ _ _ (by omega)]
    · have : i < D.length := by omega
      simp [this]

set_option maxRecDepth 100000 in
set_option maxHeartbeats 1000000 in
theorem unpack_none (ao : Option Addr) (c : Nat) (w : World) :
    Calls Try.prog 95 #[.slice ao 0 c] w fun e w' => e = .returned (.tuple #[.int .u64 0, .slice none 0 0, .int .i64 7]) ∧ Below w.heap.size w w' := by
  go_enter Try.func95, Try.ntmps95
  go_wp2
  go_ret3
  exact ⟨rfl, Below.refl _ _⟩
set_option maxRecDepth 100000 in
set_option maxHeartbeats 1000000 in
theorem unpack_nohead (s : ByteArray) (m b off c : Nat) (w : World) (h : headB s.data.toList = false) (hm : m ≤ 1000) (hc : w.cell? ⟨b, off, none⟩ = some (.string s)) :
    Calls Try.prog 95 #[.slice (some ⟨b, off, none⟩) (m + 1) c] w fun e w' => e = .returned (.tuple #[.int .u64 0, .slice none 0 0, .int .i64 7]) ∧ Below w.heap.size w w' := by
  have C := Lib.hid (readHead_no s w h)
  clear h
  have h0 : (((m : Int) + 1) == 0) = false := beq_eq_false_iff_ne.2 (by omega)
  go_enter Try.func95, Try.ntmps95
  go_wp2_with fail
  refine C.out.mono ?_
  rintro e w1 ⟨rfl, hb1⟩
  have HB := Lib.hid hb1; clear hb1 C
  go_wp2
  go_ret3
  exact ⟨rfl, HB.out⟩
set_option maxRecDepth 100000 in
set_option maxHeartbeats 1000000 in
theorem unpack_few (s : ByteArray) (m b off c : Nat) (w : World) (h : headB s.data.toList = true) (hm : m ≤ 1000) (hn : m < nmAt s.data.toList 12) (hc : w.cell? ⟨b, off, none⟩ = some (.string s)) :
    Calls Try.prog 95 #[.slice (some ⟨b, off, none⟩) (m + 1) c] w fun e w' => e = .returned (.tuple #[.int .u64 0, .slice none 0 0, .int .i64 7]) ∧ Below w.heap.size w w' := by
  have C := Lib.hid (readHead_yes s w h)
  clear h
  have h0 : (((m : Int) + 1) == 0) = false := beq_eq_false_iff_ne.2 (by omega)
  generalize seqOf s.data.toList = sq at *
  generalize nmAt s.data.toList 12 = n at *
  go_enter Try.func95, Try.ntmps95
  go_wp2_with fail
  refine C.out.mono ?_
  rintro e w1 ⟨v, rfl, ho, hb1⟩
  have HB := Lib.hid hb1; clear hb1 C
  obtain ⟨ao, c2, hv, _⟩ := ho.sl
  rw [takenL_len] at hv
  subst hv
  clear ho
  go_wp2
  go_ret3
  exact ⟨rfl, HB.out⟩

set_option maxRecDepth 100000 in
set_option maxHeartbeats 4000000 in
theorem unpack_head (s : ByteArray) (D : List ByteArray) (b off c : Nat) (w : World) (R : Ending → World → Prop) (h : headB s.data.toList = true) (hm : D.length ≤ 1000) (hn : nmAt s.data.toList 12 ≤ D.length) (hcap : D.length ≤ c) (hb : b < w.heap.size) (hD : ∀ d ∈ D, d.size ≤ maxLen)
    (hc : StrsAt w b off (s :: D))
    (hform : (¬ ∀ d ∈ D.take (nmAt s.data.toList 12), d.size = 256) → ∀ w', Below w.heap.size w w' → R (.returned (.tuple #[.int .u64 0, .slice none 0 0, .int .i64 7])) w')
    (hsum : (∀ d ∈ D.take (nmAt s.data.toList 12), d.size = 256) → sumB s D = false → ∀ w', Below w.heap.size w w' → R (.returned (.tuple #[.int .u64 0, .slice none 0 0, .int .i64 8])) w')
    (hok : (∀ d ∈ D.take (nmAt s.data.toList 12), d.size = 256) → sumB s D = true → ∀ v w', OwnW w.heap.size w' v ((blocksOf s.data.toList).zip (D.take (nmAt s.data.toList 12))) → Below w.heap.size w w' → R (.returned (.tuple #[.int .u64 ((seqOf s.data.toList : Nat) : Int), v, .int .i64 0])) w') :
    Calls Try.prog 95 #[.slice (some ⟨b, off, none⟩) (D.length + 1) (c + 1)] w R := by
  obtain ⟨k1, k2, k3, k4, k5, k6⟩ := (headB_iff _).1 h
  have hsz : s.size = 256 := by rw [← str_len, k1]
  have C := Lib.hid (readHead_yes s w h)
  have HFA := Lib.hid (filled_all s.data.toList D hn k5)
  rw [← filled_zero _ _ D] at C
  have hc0 := hc 0 (by simp)
  simp only [Nat.add_zero, List.getElem_cons_zero] at hc0
  have HC := Lib.hid hc.tail
  have HCC := Lib.hid hc
  have HF := Lib.hid hform
  have HS := Lib.hid hsum
  have HO := Lib.hid hok
  have HDD := Lib.hid hD
  have h248 := nmAt_lt s.data.toList 248
  obtain ⟨T1, hT1⟩ : ∃ T, s.extract 248 s.size = T := ⟨_, rfl⟩
  have hT1' : s.extract 248 256 = T1 := by rw [← hT1, hsz]
  have F1 : Hid (∀ W, ∃ T2, Calls Try.prog 93 #[.string T1] W fun e w' => e = .returned (.tuple #[.int .u32 ((nmAt s.data.toList 248 : Nat) : Int), .string T2, .bool true]) ∧ Below W.heap.size W w') := fun W =>
    ⟨_, toFixed_at W (by rw [← hT1, ← bs_data s, bs_ext, bs_len, data_bs, List.take_of_length_le (Nat.le_refl _)]) rfl (by omega) (by omega)⟩
  have CS : Hid (∀ W, Below w.heap.size w W → Calls Try.prog 86 #[.slice (some ⟨b, off, none⟩) (nmAt s.data.toList 12 + 1) (c + 1)] W fun e w' => e = .returned (.int .u32 ((crcL (s.data.toList.take 248 ++ joinB (D.take (nmAt s.data.toList 12))) : Nat) : Int)) ∧ Below W.heap.size W w') := by
    intro W hW
    have e : (D.take (nmAt s.data.toList 12)).length = nmAt s.data.toList 12 := by rw [List.length_take]; omega
    have := sum_any s (D.take (nmAt s.data.toList 12)) b off c W (by omega) (by omega) (by omega) (by omega) (fun d hd => HDD.out d (List.mem_of_mem_take hd)) (Nat.lt_of_lt_of_le hb hW.size) (fun j hj => by
      have hj' : j < (s :: D).length := by simp at hj ⊢; omega
      rw [(hc.below hW hb) j hj']
      cases j with
      | zero => rfl
      | succ j => simp)
    rw [e] at this
    exact this
  have hcl := crcL_lt (s.data.toList.take 248 ++ joinB (D.take (nmAt s.data.toList 12)))
  have HSB : Hid (sumB s D = (nmAt s.data.toList 248 == crcL (s.data.toList.take 248 ++ joinB (D.take (nmAt s.data.toList 12))))) := rfl
  clear hD hc h k1 k2 k3 k6 hform hsum hok
  generalize crcL (s.data.toList.take 248 ++ joinB (D.take (nmAt s.data.toList 12))) = sm at *
  generalize seqOf s.data.toList = sq at *
  generalize nmAt s.data.toList 248 = told at *
  generalize (s.data.toList.take 248).drop 16 = q at *
  generalize blocksOf s.data.toList = bl at *
  generalize nmAt s.data.toList 12 = n at *
  obtain ⟨m, hmm⟩ : ∃ m, D.length = m := ⟨_, rfl⟩
  rw [hmm] at hm hn hcap ⊢
  have HM := Lib.hid hmm; clear hmm
  have h0 : (((m : Int) + 1) == 0) = false := beq_eq_false_iff_ne.2 (by omega)
  have h1 : ¬ ((m : Int) + 1 ≤ (n : Int)) := by omega
  go_enter Try.func95, Try.ntmps95
  go_wp2_with fail
  refine C.out.mono ?_
  rintro e w1 ⟨v, rfl, ho, hb1⟩
  have HB1 := Lib.hid hb1
  obtain ⟨g, c2, hv, hc2, hg1, hg2, hst, hfr⟩ := ho.here (by rw [filled_len]; omega)
  rw [filled_len] at hv hc2
  subst hv
  have HO1 := Lib.hid ho
  clear ho hb1 C hst hfr
  go_wp2_with fail
  go_loopw [34] (fun i wr => ∃ k : Nat, k ≤ n ∧ i = .int .i64 k ∧ Hid (∀ d ∈ D.take k, d.size = 256) ∧ Hid (OwnW w.heap.size wr (.slice (some ⟨g, 0, none⟩) n c2) (filled q n D k)) ∧ Hid (Below w.heap.size w wr)) (fun i _ => n - (intOf i).toNat)
  case atStart => exact ⟨0, Nat.zero_le _, rfl, (fun d hd => by simp at hd), HO1, HB1⟩
  case round =>
    clear HO1 HB1
    obtain ⟨k, hk, rfl, HK, HOK, HB⟩ := hrel
    by_cases hlt : k < n
    · have hkD : k < D.length := by rw [HM.out]; omega
      have hst := HOK.out.here (by rw [filled_len]; omega)
      obtain ⟨g', c3, hv, _, _, hgl, hst, hfr⟩ := hst
      rw [filled_len] at hv
      obtain ⟨rfl, rfl⟩ : g = g' ∧ c2 = c3 := by simpa using hv
      have hf1 := hfr (k * 2 + 1)
      obtain ⟨d0, d1⟩ := hst k (by rw [filled_len]; exact hlt)
      rw [Nat.zero_add] at d0 d1
      rw [filled_at _ _ _ _ _ hlt, if_neg (by omega)] at d1
      have hsrc := (HC.out.below HB.out hb) k hkD
      have HST : Hid (∀ W, OwnW w.heap.size W (.slice (some ⟨g, 0, none⟩) n c2) (filled q n D k) → OwnW w.heap.size (W.setCell ⟨g, k * 2 + 1, none⟩ (.string D[k])) (.slice (some ⟨g, 0, none⟩) n c2) (filled q n D (k + 1))) := by
        intro W hW
        exact hW.storeN (filled_len ..) k (by rw [filled_len]; exact hlt) D[k] (filled_set q n D k hlt hkD)
      have hdz := HDD.out D[k] (List.getElem_mem hkD)
      unfold maxLen at hdz
      have HTK : Hid (D.take (k + 1) = D.take k ++ [D[k]]) := List.take_succ_eq_append_getElem hkD
      have HMEM : Hid (D[k] ∈ D.take n) := by
        rw [List.mem_take_iff_getElem]
        exact ⟨k, by omega, rfl⟩
      clear hst hfr hv d0
      generalize D[k] = d at *
      have hsum1 : off + 1 + k = off + (k + 1) := by omega
      rw [hsum1] at hsrc
      clear hsum1
      have i2 : (k : Int) + 1 < (m : Int) + 1 := by omega
      by_cases hd : d.size = 256
      · have HK2 : Hid (∀ d ∈ D.take (k + 1), d.size = 256) := by
          intro x hx
          rw [HTK.out] at hx
          rcases List.mem_append.1 hx with hx | hx
          · exact HK.out x hx
          · simp at hx; rw [hx]; exact hd
        have hne : ((d.size : Int) != 256) = false := by simp; omega
        clear hd
        go_wp2
        go_roundw
        case rel => exact ⟨k + 1, by omega, by go_num, HK2, HST.out _ HOK.out, HB.out.setCell hg1 _⟩
        case measure => simp [intOf]; omega
      · have HNO : Hid (¬ ∀ d ∈ D.take n, d.size = 256) := fun hh => hd (hh _ HMEM.out)
        have hne : ((d.size : Int) != 256) = true := by simp; omega
        clear hd
        go_wp2
        go_ret3
        exact HF.out HNO.out _ (HB.out.setCell hg1 _)
    · have hkn : k = n := by omega
      subst hkn
      obtain ⟨T2, hF⟩ := F1.out wr
      have HF1 := Lib.hid hF; clear hF F1
      have hc0' := (HB.out.cell (p := ⟨b, off, none⟩) hb).trans hc0
      go_wp2_with fail
      refine HF1.out.mono ?_
      rintro e w2 ⟨rfl, hb2⟩
      have HB2 := Lib.hid (HB.out.trans (hb2.mono HB.out.size))
      have HO2 : Hid (OwnW w.heap.size w2 (.slice (some ⟨g, 0, none⟩) k c2) (bl.zip (D.take k))) := by
        show OwnW _ _ _ _
        rw [← HFA.out]; exact HOK.out.below hb2
      clear hb2 HF1 HOK HB hc0'
      go_wp2_with fail
      refine (CS.out _ HB2.out).mono ?_
      rintro e w3 ⟨rfl, hb3⟩
      have HB3 := Lib.hid (HB2.out.trans (hb3.mono HB2.out.size))
      have HO3 := Lib.hid (HO2.out.below hb3)
      clear hb3 CS HO2
      by_cases ht : told = sm
      · have HT : Hid (sumB s D = true) := by show _ = _; rw [HSB.out]; simpa using ht
        have hne : ((told : Int) != (sm : Int)) = false := by simp; omega
        clear ht
        go_wp2
        go_ret3
        exact HO.out HK.out HT.out _ _ HO3.out HB3.out
      · have HT : Hid (sumB s D = false) := by show _ = _; rw [HSB.out]; simpa using ht
        have hne : ((told : Int) != (sm : Int)) = true := by simp; omega
        clear ht
        go_wp2
        go_ret3
        exact HS.out HK.out HT.out _ HB3.out

theorem unpack_any (L : List ByteArray) (v : Value) (w : World) (hl : L.length ≤ 1000) (hs : ∀ d ∈ L, d.size ≤ maxLen) (h : SlS w v L) :
    Calls Try.prog 95 #[v] w fun e w' => ∃ u, e = .returned (.tuple #[.int .u64 (((unp L).1 : Nat) : Int), u, .int .i64 (((unp L).2.2 : Nat) : Int)]) ∧ OwnW w.heap.size w' u (unp L).2.1 ∧ Below w.heap.size w w' := by
  cases L with
  | nil =>
    obtain ⟨ao, c, rfl, _⟩ := h
    exact (unpack_none ao c w).mono fun e w' ⟨he, hb⟩ => ⟨_, he, OwnW.nil _ _, hb⟩
  | cons s D =>
    obtain ⟨b, off, c, rfl, hcap, hb, hc⟩ := h.here (by simp)
    obtain ⟨c', rfl⟩ : ∃ c', c = c' + 1 := ⟨c - 1, by simp at hcap; omega⟩
    have hc0 := hc 0 (by simp)
    simp only [Nat.add_zero, List.getElem_cons_zero] at hc0
    have hl' : D.length ≤ 1000 := by simp at hl; omega
    rw [unp_cons]
    cases hh : headB s.data.toList with
    | false =>
      have hf : ¬ formB s D = true := fun hf => by rw [((formB_iff s D).1 hf).1] at hh; cases hh
      rw [if_neg hf]
      exact (unpack_nohead s D.length b off (c' + 1) w hh hl' hc0).mono fun e w' ⟨he, hb⟩ => ⟨_, he, OwnW.nil _ _, hb⟩
    | true =>
      by_cases hn : nmAt s.data.toList 12 ≤ D.length
      · refine unpack_head s D b off c' w _ hh hl' hn (by simp at hcap; omega) hb (fun d hd => hs d (List.mem_cons_of_mem _ hd)) hc ?_ ?_ ?_
        · intro hno w' hb
          have hf : ¬ formB s D = true := fun hf => hno ((formB_iff s D).1 hf).2.2
          rw [if_neg hf]
          exact ⟨_, rfl, OwnW.nil _ _, hb⟩
        · intro hall hsm w' hb
          rw [if_pos ((formB_iff s D).2 ⟨hh, hn, hall⟩), if_neg (by rw [hsm]; decide)]
          exact ⟨_, rfl, OwnW.nil _ _, hb⟩
        · intro hall hsm v w' ho hb
          rw [if_pos ((formB_iff s D).2 ⟨hh, hn, hall⟩), if_pos hsm]
          exact ⟨_, rfl, ho, hb⟩
      · have hf : ¬ formB s D = true := fun hf => hn ((formB_iff s D).1 hf).2.1
        rw [if_neg hf]
        exact (unpack_few s D.length b off (c' + 1) w hh hl' (by omega) hc0).mono fun e w' ⟨he, hb⟩ => ⟨_, he, OwnW.nil _ _, hb⟩
end Go.Proofs.Ytodfcbpimglhdaa.Fr

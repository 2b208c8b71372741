/- An act, as the document has it; what any number of them keeps. -/
import Derived.Test.YteeoglfgilabaaaZCDrop
import Derived.Test.YteeoglfgilabaaaZCOpen

namespace Go.Proofs.Yteeoglfgilabaaa
open Go.RowKit

def CS.does (C : CS) (a : Act6) : (ByteArray × Int) × CS :=
  if a.q = 4 ∨ a.q = 5 then ((⟨#[]⟩, (C.put a.i a.s).1), (C.put a.i a.s).2) else if a.q = 6 then ((⟨#[]⟩, (C.pin a.i).1), (C.pin a.i).2) else
  if a.q = 7 then ((⟨#[]⟩, (C.unpin a.i).1), (C.unpin a.i).2) else if a.q = 8 then ((⟨#[]⟩, 0), C.clean) else if a.q = 9 then ((⟨#[]⟩, 0), C.drop) else C.get a.i (told a.i) (toldE a.i)
/-- Not too many misses, nor pins. -/
structure Bd (N : Nat) (C : CS) : Prop where
  ms : C.misses ≤ N
  pn : ∀ x ∈ C.L, x.pins ≤ N
section
variable {N : Nat} {C : CS}
theorem Bd.more (h : Bd N C) : Bd (N + 1) C := ⟨Nat.le_succ_of_le h.ms, fun x hx => Nat.le_succ_of_le (h.pn x hx)⟩
theorem Bd.get (h : Bd N C) (i : Int) (t : ByteArray) (e : Int) : Bd (N + 1) (C.get i t e).2 := by
  unfold CS.get
  cases hf : fx C.L i with
  | some ky =>
    obtain ⟨k, x⟩ := ky
    refine ⟨Nat.le_succ_of_le h.ms, fun y hy => Nat.le_succ_of_le ?_⟩
    rcases List.mem_cons.1 hy with rfl | hy
    · exact h.pn _ (fx_mem hf)
    · exact h.pn _ (mem_erase hy)
  | none =>
    simp only
    split
    · exact h.more
    · cases hr : room C.L C.most with
      | none => exact h.more
      | some M =>
        refine ⟨Nat.succ_le_succ h.ms, fun y hy => ?_⟩
        rcases List.mem_cons.1 hy with rfl | hy
        · exact Nat.zero_le _
        · exact Nat.le_succ_of_le (h.pn _ ((room_sub hr).subset hy))
theorem Bd.put (h : Bd N C) (i : Int) (s : ByteArray) : Bd (N + 1) (C.put i s).2 := by
  unfold CS.put
  split
  · exact h.more
  · cases hf : fx C.L i with
    | some ky =>
      obtain ⟨k, x⟩ := ky
      refine ⟨Nat.le_succ_of_le h.ms, fun y hy => Nat.le_succ_of_le ?_⟩
      rcases List.mem_cons.1 hy with rfl | hy
      · exact h.pn x (fx_mem hf)
      · exact h.pn _ (mem_erase hy)
    | none =>
      simp only
      cases hr : room C.L C.most with
      | none => exact h.more
      | some M =>
        refine ⟨Nat.le_succ_of_le h.ms, fun y hy => ?_⟩
        rcases List.mem_cons.1 hy with rfl | hy
        · exact Nat.zero_le _
        · exact Nat.le_succ_of_le (h.pn _ ((room_sub hr).subset hy))
theorem Bd.pin (h : Bd N C) (i : Int) : Bd (N + 1) (C.pin i).2 := by
  unfold CS.pin
  cases hf : fx C.L i with
  | some ky =>
    obtain ⟨k, x⟩ := ky
    refine ⟨Nat.le_succ_of_le h.ms, fun y hy => ?_⟩
    rcases List.mem_or_eq_of_mem_set hy with hy | rfl
    · exact Nat.le_succ_of_le (h.pn _ hy)
    · exact Nat.succ_le_succ (h.pn _ (fx_mem hf))
  | none => exact h.more
theorem Bd.unpin (h : Bd N C) (i : Int) : Bd (N + 1) (C.unpin i).2 := by
  unfold CS.unpin
  cases hf : fx C.L i with
  | some ky =>
    obtain ⟨k, x⟩ := ky
    simp only
    split
    · exact h.more
    · refine ⟨Nat.le_succ_of_le h.ms, fun y hy => ?_⟩
      rcases List.mem_or_eq_of_mem_set hy with hy | rfl
      · exact Nat.le_succ_of_le (h.pn _ hy)
      · have := h.pn _ (fx_mem hf); show x.pins - 1 ≤ _; omega
  | none => exact h.more
theorem Bd.clean (h : Bd N C) : Bd (N + 1) C.clean := by
  refine ⟨Nat.le_succ_of_le h.ms, fun y hy => ?_⟩
  obtain ⟨x, hx, rfl⟩ := List.mem_map.1 hy
  exact Nat.le_succ_of_le (h.pn x hx)
theorem Bd.drop (h : Bd N C) : Bd (N + 1) C.drop := ⟨Nat.le_succ_of_le h.ms, fun y hy => Nat.le_succ_of_le (h.pn y (List.mem_filter.1 hy).1)⟩
theorem Bd.does (h : Bd N C) (a : Act6) : Bd (N + 1) (C.does a).2 := by
  unfold CS.does
  split
  · exact h.put _ _
  · split
    · exact h.pin _
    · split
      · exact h.unpin _
      · split
        · exact h.clean
        · split
          · exact h.drop
          · exact h.get _ _ _
theorem Bd.new (m : Nat) : Bd 0 (CS.new m) := ⟨Nat.le_refl _, fun x hx => by cases hx⟩

variable {w0 w : World} {p : Nat}
theorem Home.does (h : Home w0 w p C) (a : Act6) (ha : a.Ok) (hb : Bd N C) (hN : N < 1000000) :
    Calls Try.prog 13 #[.pointer (some ⟨p, 0, none⟩), .agg #[.int .i64 a.op, .int .i64 a.at_, .int .u8 a.b, .bool a.bad]] w fun e w' => e = .returned (.tuple #[.string (C.does a).1.1, .int .i64 (C.does a).1.2]) ∧ Hid (Home w0 w' p (C.does a).2) := by
  have h' := h
  obtain ⟨S, h1, h2, h3⟩ := h
  have hq := a.q_lt
  have hp : ∀ x ∈ C.L, x.pins < 1000000 := fun x hx => by have := hb.pn x hx; omega
  have hm : C.misses < 1000000 := by have := hb.ms; omega
  unfold CS.does
  by_cases q4 : a.q = 4 ∨ a.q = 5
  · rw [if_pos q4]
    exact (does_put a ha q4 h2).mono fun e w' ⟨he, hl⟩ => ⟨he, home_leaves h1 h3 hl⟩
  · rw [if_neg q4]
    by_cases q6 : a.q = 6
    · rw [if_pos q6]
      exact (does_pin a ha q6 h2 hp).mono fun e w' ⟨he, hl⟩ => ⟨he, home_leaves h1 h3 hl⟩
    · rw [if_neg q6]
      by_cases q7 : a.q = 7
      · rw [if_pos q7]
        exact (does_unpin a ha q7 h2).mono fun e w' ⟨he, hl⟩ => ⟨he, home_leaves h1 h3 hl⟩
      · rw [if_neg q7]
        by_cases q8 : a.q = 8
        · rw [if_pos q8]
          exact (does_clean a ha q8 h2).mono fun e w' ⟨he, hl⟩ => ⟨he, home_leaves h1 h3 hl⟩
        · rw [if_neg q8]
          by_cases q9 : a.q = 9
          · rw [if_pos q9]
            exact (does_drop a ha q9 h2).mono fun e w' ⟨he, hl⟩ => ⟨he, home_leaves h1 h3 hl⟩
          · rw [if_neg q9]
            refine does_get a ha (by omega) _ _ (fun w' => Hid (Home w0 w' p (C.get a.i (told a.i) (toldE a.i)).2)) fun W hW => ?_
            exact Home.get (h'.below hW) a.i ha.i hm
theorem got_new (m : Nat) (i : Int) (hm : 1 ≤ m) : (CS.new m).get i (fl i) 0 = ((fl i, 0), ⟨[⟨i, fl i, false, 0⟩], m, 1⟩) := by
  unfold CS.get CS.new
  show (if (0 : Int) ≠ 0 then _ else match room [] m with | none => _ | some L => _) = _
  rw [if_neg (by simp)]
  unfold room
  rw [if_pos (by simp; omega)]
theorem pin_new (m : Nat) (i : Int) : (⟨[⟨i, fl i, false, 0⟩], m, 1⟩ : CS).pin i = (0, ⟨[⟨i, fl i, false, 1⟩], m, 1⟩) := by
  unfold CS.pin fx
  rw [if_pos rfl]
  rfl
end

/-! A block that is pinned stays. -/
def Pinned (n : Int) (C : CS) : Prop := ∃ x ∈ C.L, x.key = n ∧ 1 ≤ x.pins
section
variable {n : Int} {C : CS}
theorem room_keeps {L M : List Kp} {most : Nat} (h : room L most = some M) {x : Kp} (hx : x ∈ L) (hf : x.free = false) : x ∈ M := by
  unfold room at h
  split at h
  · cases h; exact hx
  · cases hl : lf L with
    | none => rw [hl] at h; cases h
    | some k =>
      rw [hl] at h
      cases h
      obtain ⟨hk, h1, _⟩ := lf_some hl
      obtain ⟨j, hj, rfl⟩ := List.getElem_of_mem hx
      rw [List.mem_eraseIdx_iff_getElem]
      exact ⟨j, hj, (fun e => by subst e; rw [h1] at hf; cases hf), rfl⟩
theorem Kp.held {x : Kp} (h : 1 ≤ x.pins) : x.free = false := by
  unfold Kp.free
  have : (x.pins == 0) = false := by simp; omega
  rw [this, Bool.and_false]
theorem erase_other {L : List Kp} {k : Nat} {i : Int} {y x : Kp} (hf : fx L i = some (k, y)) (hx : x ∈ L) (hne : x.key ≠ i) : x ∈ L.eraseIdx k := by
  obtain ⟨hk, h1, h2, _⟩ := fx_some hf
  obtain ⟨j, hj, rfl⟩ := List.getElem_of_mem hx
  rw [List.mem_eraseIdx_iff_getElem]
  exact ⟨j, hj, (fun e => by subst e; rw [h1] at hne; exact hne h2), rfl⟩
theorem key_one {C : CS} (ok : C.Ok) {k : Nat} {i : Int} {x y : Kp} (hf : fx C.L i = some (k, y)) (hx : x ∈ C.L) (he : x.key = i) : x = y := by
  obtain ⟨j, hj, rfl⟩ := List.getElem_of_mem hx
  have := fx_of ok.nodup hj
  rw [he, hf] at this
  simp only [Option.some.injEq, Prod.mk.injEq] at this
  exact this.2.symm
theorem set_other {L : List Kp} {k : Nat} {i : Int} {y z x : Kp} (hf : fx L i = some (k, y)) (hx : x ∈ L) (hne : x.key ≠ i) : x ∈ L.set k z := by
  obtain ⟨hk, h1, h2, _⟩ := fx_some hf
  obtain ⟨j, hj, rfl⟩ := List.getElem_of_mem hx
  have : (L.set k z)[j]'(by simpa using hj) = L[j] := by
    rw [List.getElem_set_ne]
    intro e; subst e; rw [h1] at hne; exact hne h2
  rw [← this]
  exact List.getElem_mem _
theorem Pinned.does (ok : C.Ok) (h : Pinned n C) (a : Act6) (h7 : a.q ≠ 7) (h9 : a.q ≠ 9) : Pinned n (C.does a).2 := by
  obtain ⟨x, hx, hk, hp⟩ := h
  unfold CS.does
  split
  · show Pinned n (C.put a.i a.s).2
    unfold CS.put
    split
    · exact ⟨x, hx, hk, hp⟩
    · cases hf : fx C.L a.i with
      | some ky =>
        obtain ⟨k, y⟩ := ky
        by_cases e : x.key = a.i
        · obtain rfl := key_one ok hf hx e
          exact ⟨_, List.mem_cons_self .., hk, hp⟩
        · exact ⟨x, List.mem_cons_of_mem _ (erase_other hf hx e), hk, hp⟩
      | none =>
        simp only
        cases hr : room C.L C.most with
        | none => exact ⟨x, hx, hk, hp⟩
        | some M => exact ⟨x, List.mem_cons_of_mem _ (room_keeps hr hx (Kp.held hp)), hk, hp⟩
  · split
    · show Pinned n (C.pin a.i).2
      unfold CS.pin
      cases hf : fx C.L a.i with
      | some ky =>
        obtain ⟨k, y⟩ := ky
        have hkl := (fx_some hf).1
        by_cases e : x.key = a.i
        · obtain rfl := key_one ok hf hx e
          exact ⟨_, List.mem_set hkl _, hk, Nat.le_succ_of_le hp⟩
        · exact ⟨x, set_other hf hx e, hk, hp⟩
      | none => exact ⟨x, hx, hk, hp⟩
    · split
      · exact ⟨_, List.mem_map.2 ⟨x, hx, rfl⟩, hk, hp⟩
      · unfold CS.get
        cases hf : fx C.L a.i with
        | some ky =>
          obtain ⟨k, y⟩ := ky
          by_cases e : x.key = a.i
          · obtain rfl := key_one ok hf hx e
            exact ⟨_, List.mem_cons_self .., hk, hp⟩
          · exact ⟨x, List.mem_cons_of_mem _ (erase_other hf hx e), hk, hp⟩
        | none =>
          simp only
          split
          · exact ⟨x, hx, hk, hp⟩
          · cases hr : room C.L C.most with
            | none => exact ⟨x, hx, hk, hp⟩
            | some M => exact ⟨x, List.mem_cons_of_mem _ (room_keeps hr hx (Kp.held hp)), hk, hp⟩
end
end Go.Proofs.Yteeoglfgilabaaa
/- The walk of CacheHolds. -/
namespace Go.Proofs.Yteeoglfgilabaaa
open Go.RowKit

section
variable {w0 : World} {v0 : Value} {L : List Act6}
/-- How many may be kept, as the statements choose it. -/
theorem many_nat (k : Nat) (a : Int) : ∃ q : Nat, q < 8 ∧ pickI a 8 = (q : Int) := by
  have := pickI_lt a 8 (by omega)
  exact ⟨(pickI a 8).toNat, by omega, by omega⟩
theorem new_two (q : Nat) (w0 w : World) (hb : Below w0.heap.size w0 w) (hq : q < 8) :
    Calls Try.prog 10 #[src0, .int .i64 (2 + (q : Int))] w fun e w' => ∃ p, e = .returned (.tuple #[.pointer (some ⟨p, 0, none⟩), .int .i64 0]) ∧ Hid (Home w0 w' p (CS.new (2 + q))) := by
  have := new_home (2 + q) w0 w hb (by omega) (by omega)
  rwa [Int.natCast_add] at this
theorem Pinned.mem {n : Int} {C : CS} (h : Pinned n C) : n ∈ keys C.L := by
  obtain ⟨x, hx, he, _⟩ := h
  exact List.mem_map.2 ⟨x, hx, he⟩

set_option maxRecDepth 100000 in
set_option maxHeartbeats 4000000 in
theorem holds_any (a0 : Int) (v1 : Value) (a2 : Int) (L : List Act6) (w : World) (h0 : -9223372036854775808 ≤ a0 ∧ a0 ≤ 9223372036854775807) (hA : Acts6 w v1 L) (h2 : -9223372036854775808 ≤ a2 ∧ a2 ≤ 9223372036854775807) :
    Calls Try.prog 5 #[.int .i64 a0, v1, .int .i64 a2] w fun e w' => e = .returned (.bool true) ∧ Below w.heap.size w w' := by
  have HS := Lib.hid (shown_any w)
  obtain ⟨ao, cap, hv⟩ : ∃ ao cap, v1 = .slice ao L.length cap := by obtain ⟨_, _, ao, cap, hv, _⟩ := hA; exact ⟨ao, cap, hv⟩
  have hlen := hA.2.1
  have HA := Lib.hid hA
  have HV := Lib.hid hv
  obtain ⟨n, hn⟩ : ∃ n, L.length = n := ⟨_, rfl⟩
  have HN := Lib.hid hn
  rw [hn] at hlen hv
  subst hv
  clear hn hA
  by_cases hl : 200 < n
  · have hlz : (200 : Int) < (n : Int) := by omega
    clear hl h0 h2
    go_enter Try.func5, Try.ntmps5
    go_wp2_with fail
    refine HS.out.mono ?_
    rintro e w1 ⟨rfl, hb⟩
    go_wp2
    go_ret
    exact ⟨rfl, hb.out⟩
  · have hlz : ¬ (200 : Int) < (n : Int) := by omega
    obtain ⟨q, hq, hqe⟩ := many_nat 0 a0
    have HP0 : Hid (∀ W, Calls Try.prog 12 #[.int .i64 a0, .int .i64 8] W fun e w' => e = .returned (.int .i64 (q : Int)) ∧ W = w') := fun W => by rw [← hqe]; exact pick_any a0 8 W h0 (by omega)
    have hb2 := pickI_lt a2 12 (by omega)
    have HP2 : Hid (∀ W, Calls Try.prog 12 #[.int .i64 a2, .int .i64 12] W fun e w' => e = .returned (.int .i64 (pickI a2 12)) ∧ W = w') := fun W => pick_any a2 12 W h2 (by omega)
    generalize pickI a2 12 = b at *
    have HNEW : Hid (∀ W, Below w.heap.size w W → Calls Try.prog 10 #[src0, .int .i64 (2 + (q : Int))] W fun e w' => ∃ p, e = .returned (.tuple #[.pointer (some ⟨p, 0, none⟩), .int .i64 0]) ∧ Hid (Home w w' p (CS.new (2 + q)))) := fun W hW => new_two q w W hW hq
    have HB2 := Lib.hid hb2
    clear hqe h0 h2 hl
    go_enter Try.func5, Try.ntmps5
    go_wp2_with fail
    refine HS.out.mono ?_
    rintro e w1 ⟨rfl, hb⟩
    go_wp2_with fail
    refine (HP0.out _).mono ?_
    rintro e w1' ⟨rfl, rfl⟩
    have G := Lib.hid (HNEW.out w1 hb.out)
    clear HNEW HP0 hb
    go_wp2_with fail
    refine G.out.mono ?_
    rintro e w2 ⟨p, rfl, c0⟩
    clear G
    go_wp2_with fail
    refine (HP2.out _).mono ?_
    rintro e w2' ⟨rfl, rfl⟩
    have G := Lib.hid (Home.got b (by have := HB2.out; omega) c0.out (by show (0 : Nat) < _; omega) (got_new (2 + q) b (by omega)))
    clear HP2 c0
    go_wp2_with fail
    refine G.out.mono ?_
    rintro e w3 ⟨rfl, c1⟩
    clear G
    have G := Lib.hid (c1.out.pin b (by have := HB2.out; omega) (by simp))
    rw [pin_new] at G
    have HST : Hid (Bd 1 (⟨[⟨b, fl b, false, 1⟩], 2 + q, 1⟩ : CS) ∧ Pinned b (⟨[⟨b, fl b, false, 1⟩], 2 + q, 1⟩ : CS)) := ⟨⟨Nat.le_refl _, by simp⟩, ⟨_, List.mem_cons_self .., rfl, Nat.le_refl _⟩⟩
    clear c1
    generalize (⟨[⟨b, fl b, false, 1⟩], 2 + q, 1⟩ : CS) = C0 at *
    go_wp2_with fail
    refine G.out.mono ?_
    rintro e w4 ⟨rfl, c2⟩
    clear G
    go_wp2_with fail
    go_loopw [14, 15] (fun i _ wr => ∃ k : Nat, k ≤ n ∧ i = .int .i64 (k : Int) ∧ Hid (∃ C, Home w wr p C ∧ Bd (1 + k) C ∧ Pinned b C)) (fun i _ _ => n - (intOf i).toNat)
    case atStart => exact ⟨0, Nat.zero_le _, rfl, C0, c2.out, HST.out⟩
    case round =>
      obtain ⟨k, hk, rfl, HI⟩ := hrel
      obtain ⟨C, hC⟩ := HI.out
      have HC := Lib.hid hC
      clear hC HI c2 HST
      by_cases hlt : k < n
      · have hkz : (k : Int) < (n : Int) := by omega
        have hkL : k < L.length := by rw [HN.out]; exact hlt
        obtain ⟨g, off, cap', hv', d0, d1, d2, d3⟩ := HA.out.cell HC.out.1.bel k hkL
        obtain ⟨rfl, hnl, rfl⟩ : ao = some ⟨g, off, none⟩ ∧ n = L.length ∧ cap = cap' := by simpa using hv'
        have HAO := Lib.hid (HA.out.1 L[k] (List.getElem_mem hkL))
        clear hv' hnl
        generalize L[k] = A at *
        have HP := pickA A HAO.out
        by_cases hq79 : A.q = 7 ∨ A.q = 9
        · have HC2 : Hid (∃ C, Home w wr p C ∧ Bd (1 + (k + 1)) C ∧ Pinned b C) := ⟨C, HC.out.1, HC.out.2.1.more, HC.out.2.2⟩
          generalize A.q = q9 at *
          rcases hq79 with rfl | rfl
          all_goals
            go_wp2_with fail
            refine (HP.out _).mono ?_
            rintro e w5 ⟨rfl, rfl⟩
            go_wp2
            go_roundw
            case rel => exact ⟨k + 1, by omega, by go_num, HC2.out⟩
            case measure => simp [intOf]; omega
        · have G := Lib.hid (Home.does HC.out.1 A HAO.out HC.out.2.1 (by omega))
          have HC2 : Hid (Bd (1 + (k + 1)) (C.does A).2 ∧ Pinned b (C.does A).2) := ⟨HC.out.2.1.does A, HC.out.2.2.does HC.out.1.ok A (fun e => hq79 (.inl e)) (fun e => hq79 (.inr e))⟩
          have n7 : (A.q == 7) = false := by simp; omega
          have n9 : (A.q == 9) = false := by simp; omega
          generalize C.does A = R at *
          generalize A.q = q9 at *
          clear hq79
          go_wp2_with fail
          refine (HP.out _).mono ?_
          rintro e w5 ⟨rfl, rfl⟩
          go_wp2_with fail
          refine G.out.mono ?_
          rintro e w6 ⟨rfl, hh⟩
          go_wp2
          go_roundw
          case rel => exact ⟨k + 1, by omega, by go_num, R.2, hh.out, HC2.out⟩
          case measure => simp [intOf]; omega
      · have hkz : ¬ (k : Int) < (n : Int) := by omega
        have G := Lib.hid HC.out.1.blocks
        have HM := Lib.hid HC.out.2.2.mem
        have hkl : C.L.length ≤ 1024 := by have := HC.out.1.ok.len; have := HC.out.1.ok.m1; omega
        go_wp2_with fail
        refine G.out.mono ?_
        rintro e w5 ⟨v, rfl, hv, h5⟩
        clear G
        have HB5 := Lib.hid h5.out.bel
        have hkk : (keys C.L).length ≤ 1024 := by rw [keys_len]; exact hkl
        generalize keys C.L = O at *
        obtain ⟨ao2, c2, rfl, hc⟩ := hv.out
        have HCC : Hid (∀ k (h : k < O.length), ∃ b, ao2 = some ⟨b, 0, none⟩ ∧ w5.cell? ⟨b, k, none⟩ = some (.int .i64 O[k])) := by
          intro k hk
          rcases hc with rfl | ⟨b, e, hb, hc⟩
          · simp at hk
          · exact ⟨b, e, hc k hk⟩
        clear hc hv h5 HC HA hkl
        obtain ⟨m, hm⟩ : ∃ m, O.length = m := ⟨_, rfl⟩
        have HML := Lib.hid hm
        rw [hm] at hkk ⊢
        clear hm
        go_wp2_with fail
        go_loop [17] (fun s => ∃ j : Nat, j ≤ m ∧ s = .int .i64 (j : Int) ∧ Hid (∀ i (hi : i < O.length), i < j → O[i] ≠ b)) (fun s => m - (intOf s).toNat)
        case atStart => exact ⟨0, Nat.zero_le _, rfl, (show ∀ _ _, _ from fun j _ h => absurd h (Nat.not_lt_zero _))⟩
        case round =>
          obtain ⟨j, hj, rfl, HPP⟩ := hrel
          by_cases hlt2 : j < m
          · have hjz : (j : Int) < (m : Int) := by omega
            have hjl : j < O.length := by rw [HML.out]; exact hlt2
            obtain ⟨g2, rfl, ck⟩ := HCC.out j hjl
            by_cases he : O[j] = b
            · rw [he] at ck
              have hii : (b == b) = true := by simp
              clear he hjl
              go_wp2
              go_ret
              exact ⟨rfl, HB5.out⟩
            · have hne : (O[j] == b) = false := beq_eq_false_iff_ne.2 he
              have HP2 : Hid (∀ i (hi : i < O.length), i < j + 1 → O[i] ≠ b) := by
                intro i hi hij
                by_cases e : i = j
                · subst e; exact he
                · exact HPP.out i hi (by omega)
              clear he
              generalize O[j] = y at *
              clear hjl
              go_wp2
              go_round
              case rel => exact ⟨j + 1, by omega, by go_num, HP2.out⟩
              case measure => simp [intOf]; omega
          · exfalso
            obtain ⟨i, hi, e⟩ := List.getElem_of_mem HM.out
            exact HPP.out i hi (by have := HML.out; omega) e
end
end Go.Proofs.Yteeoglfgilabaaa
/- The walk of CacheLast. -/
namespace Go.Proofs.Yteeoglfgilabaaa
open Go.RowKit

section
variable {S : Nat → Prop} {w0 w w' w1 : World} {p : Nat} {src v : Value} {C : CS} {O : List Int}
theorem new_one (q : Nat) (w0 w : World) (hb : Below w0.heap.size w0 w) (hq : q < 8) :
    Calls Try.prog 10 #[src0, .int .i64 (1 + (q : Int))] w fun e w' => ∃ p, e = .returned (.tuple #[.pointer (some ⟨p, 0, none⟩), .int .i64 0]) ∧ Hid (Home w0 w' p (CS.new (1 + q))) := by
  have := new_home (1 + q) w0 w hb (by omega) (by omega)
  rwa [Int.natCast_add] at this
theorem SlI.only (h : SlI w v O) (ho : Only S w w') (hn : ∀ b, v.ownBlock = some b → ¬ S b) : SlI w' v O := by
  obtain ⟨ao, c, rfl, h⟩ := h
  refine ⟨ao, c, rfl, ?_⟩
  rcases h with h | ⟨b, e, hlt, hc⟩
  · exact .inl h
  · subst e
    exact .inr ⟨b, rfl, Nat.lt_of_lt_of_le hlt ho.size, fun j hj => (ho.cell (p := ⟨b, j, none⟩) hlt (hn b rfl)).trans (hc j hj)⟩
theorem HomeG.blocksB (h : HomeG src w0 w p C) : Calls Try.prog 16 #[.pointer (some ⟨p, 0, none⟩)] w fun e w' => ∃ v, e = .returned v ∧ Hid (SlI w' v (keys C.L)) ∧ Hid (Below w.heap.size w w') := by
  obtain ⟨S, h1, h2, h3⟩ := h
  exact (blocks_any h2).mono fun e w' ⟨v, he, hr, hb⟩ => ⟨v, he, SlI.of_own hr, hb⟩
theorem Home.blocks_get (h : Home w0 w p C) (hms : C.misses < 1000000) : Calls Try.prog 16 #[.pointer (some ⟨p, 0, none⟩)] w fun e w' => ∃ v, e = .returned v ∧ Hid (SlI w' v (keys C.L)) ∧
    Hid (∀ i, (0 ≤ i ∧ i < 200) → Calls Try.prog 22 #[.pointer (some ⟨p, 0, none⟩), .int .i64 i] w' fun e w'' => e = .returned (.tuple #[.string (C.get i (fl i) 0).1.1, .int .i64 (C.get i (fl i) 0).1.2]) ∧ Hid (SlI w'' v (keys C.L)) ∧ Hid (Home w0 w'' p (C.get i (fl i) 0).2)) := by
  obtain ⟨S, h1, h2, h3⟩ := h
  refine (blocks_any h2).mono fun e w' ⟨v, he, hr, hb⟩ => ⟨v, he, SlI.of_own hr, fun i hi => ?_⟩
  have hg := get_any i (by omega) (h2.below hb) hms
  rw [(told_in i hi).1, (told_in i hi).2] at hg
  refine hg.mono fun e w'' ⟨he, hl⟩ => ⟨he, ?_, home_leaves h1 (h3.trans (hb.mono h3.size)) hl⟩
  obtain ⟨S', _, _, ho⟩ := hl
  refine (SlI.of_own hr).only ho fun b hb' hS => ?_
  have := (hr.lt b hb').1
  have := h2.lt b hS
  omega
theorem get_keys (C : CS) (i : Int) (t : ByteArray) : ((C.get i t 0).1.2 = 0 ∧ ∃ R, keys (C.get i t 0).2.L = i :: R ∧ R.Sublist (keys C.L) ∧ (C.Ok → i ∉ R)) ∨ ((C.get i t 0).1.2 ≠ 0 ∧ (C.get i t 0).2 = C) := by
  unfold CS.get
  cases hf : fx C.L i with
  | some ky =>
    obtain ⟨k, x⟩ := ky
    refine .inl ⟨rfl, keys (C.L.eraseIdx k), by show x.key :: _ = _; rw [(fx_some hf).2.2.1]; rfl, (List.eraseIdx_sublist _ _).map _, fun ok => not_mem_erase ok.nodup hf⟩
  | none =>
    simp only
    rw [if_neg (by simp)]
    cases hr : room C.L C.most with
    | none => exact .inr ⟨by show (14 : Int) ≠ 0; omega, rfl⟩
    | some M => exact .inl ⟨rfl, keys M, rfl, (room_sub hr).map _, fun _ hm => fx_none_iff.1 hf (((room_sub hr).map _).subset hm)⟩
theorem sub_skip {x y : Int} {l m : List Int} (h : (x :: l).Sublist (y :: m)) (hne : x ≠ y) : (x :: l).Sublist m := by
  cases h with
  | cons _ h => exact h
  | cons_cons _ h => exact absurd rfl hne
/-- What stands in a row, in a world behind. -/
def InRow (w : World) (ao : Option Addr) (O : List Int) : Prop := ∀ W, Below w.heap.size w W → ∀ k (_ : k < O.length), ∃ b, ao = some ⟨b, 0, none⟩ ∧ W.cell? ⟨b, k, none⟩ = some (.int .i64 (O.getD k 0))
theorem SlI.row (h : SlI w v O) : ∃ ao c, v = .slice ao O.length c ∧ InRow w ao O := by
  obtain ⟨ao, c, hv, h⟩ := h
  refine ⟨ao, c, hv, fun W hW k hk => ?_⟩
  rcases h with rfl | ⟨b, e, hlt, hc⟩
  · simp at hk
  · refine ⟨b, e, ?_⟩
    rw [(hW.cell (p := ⟨b, k, none⟩) hlt), hc k hk, List.getD_eq_getElem?_getD, List.getElem?_eq_getElem hk]; rfl
theorem getD_at {O : List Int} {k : Nat} (h : k < O.length) : O.getD k 0 = O[k] := by rw [List.getD_eq_getElem?_getD, List.getElem?_eq_getElem h]; rfl
theorem drop_at {O : List Int} {k : Nat} (h : k < O.length) : O.drop k = O.getD k 0 :: O.drop (k + 1) := by rw [getD_at h]; exact List.drop_eq_getElem_cons h

set_option maxRecDepth 100000 in
set_option maxHeartbeats 4000000 in
theorem last_any (a0 : Int) (v1 : Value) (a2 : Int) (L : List Act6) (w : World) (h0 : -9223372036854775808 ≤ a0 ∧ a0 ≤ 9223372036854775807) (hA : Acts6 w v1 L) (h2 : -9223372036854775808 ≤ a2 ∧ a2 ≤ 9223372036854775807) :
    Calls Try.prog 7 #[.int .i64 a0, v1, .int .i64 a2] w fun e w' => e = .returned (.bool true) ∧ Below w.heap.size w w' := by
  have HS := Lib.hid (shown_any w)
  obtain ⟨ao, cap, hv⟩ : ∃ ao cap, v1 = .slice ao L.length cap := by obtain ⟨_, _, ao, cap, hv, _⟩ := hA; exact ⟨ao, cap, hv⟩
  have hlen := hA.2.1
  have HA := Lib.hid hA
  have HV := Lib.hid hv
  obtain ⟨n, hn⟩ : ∃ n, L.length = n := ⟨_, rfl⟩
  have HN := Lib.hid hn
  rw [hn] at hlen hv
  subst hv
  clear hn hA
  by_cases hl : 200 < n
  · have hlz : (200 : Int) < (n : Int) := by omega
    clear hl h0 h2
    go_enter Try.func7, Try.ntmps7
    go_wp2_with fail
    refine HS.out.mono ?_
    rintro e w1 ⟨rfl, hb⟩
    go_wp2
    go_ret
    exact ⟨rfl, hb.out⟩
  · have hlz : ¬ (200 : Int) < (n : Int) := by omega
    obtain ⟨q, hq, hqe⟩ := many_nat 0 a0
    have HP0 : Hid (∀ W, Calls Try.prog 12 #[.int .i64 a0, .int .i64 8] W fun e w' => e = .returned (.int .i64 (q : Int)) ∧ W = w') := fun W => by rw [← hqe]; exact pick_any a0 8 W h0 (by omega)
    have hb2 := pickI_lt a2 12 (by omega)
    have HP2 : Hid (∀ W, Calls Try.prog 12 #[.int .i64 a2, .int .i64 12] W fun e w' => e = .returned (.int .i64 (pickI a2 12)) ∧ W = w') := fun W => pick_any a2 12 W h2 (by omega)
    generalize pickI a2 12 = b at *
    have HNEW : Hid (∀ W, Below w.heap.size w W → Calls Try.prog 10 #[src0, .int .i64 (1 + (q : Int))] W fun e w' => ∃ p, e = .returned (.tuple #[.pointer (some ⟨p, 0, none⟩), .int .i64 0]) ∧ Hid (Home w w' p (CS.new (1 + q)))) := fun W hW => new_one q w W hW hq
    have HB2 := Lib.hid hb2
    clear hqe h0 h2 hl
    go_enter Try.func7, Try.ntmps7
    go_wp2_with fail
    refine HS.out.mono ?_
    rintro e w1 ⟨rfl, hb⟩
    go_wp2_with fail
    refine (HP0.out _).mono ?_
    rintro e w1' ⟨rfl, rfl⟩
    have G := Lib.hid (HNEW.out w1 hb.out)
    clear HNEW HP0 hb
    go_wp2_with fail
    refine G.out.mono ?_
    rintro e w2 ⟨p, rfl, c0⟩
    clear G
    have HST := Lib.hid (Bd.new (1 + q))
    generalize CS.new (1 + q) = C0 at *
    go_wp2_with fail
    go_loopw [10] (fun i wr => ∃ k : Nat, k ≤ n ∧ i = .int .i64 (k : Int) ∧ Hid (∃ C, Home w wr p C ∧ Bd k C)) (fun i _ => n - (intOf i).toNat)
    case atStart => exact ⟨0, Nat.zero_le _, rfl, C0, c0.out, HST.out⟩
    case round =>
      obtain ⟨k, hk, rfl, HI⟩ := hrel
      obtain ⟨C, hC⟩ := HI.out
      have HC := Lib.hid hC
      clear hC HI c0 HST
      by_cases hlt : k < n
      · have hkz : (k : Int) < (n : Int) := by omega
        have hkL : k < L.length := by rw [HN.out]; exact hlt
        obtain ⟨g, off, cap', hv', d0, d1, d2, d3⟩ := HA.out.cell HC.out.1.bel k hkL
        obtain ⟨rfl, hnl, rfl⟩ : ao = some ⟨g, off, none⟩ ∧ n = L.length ∧ cap = cap' := by simpa using hv'
        have HAO := Lib.hid (HA.out.1 L[k] (List.getElem_mem hkL))
        clear hv' hnl
        generalize L[k] = A at *
        have G := Lib.hid (Home.does HC.out.1 A HAO.out HC.out.2 (by omega))
        have HC2 := Lib.hid (HC.out.2.does A)
        generalize C.does A = R at *
        go_wp2_with fail
        refine G.out.mono ?_
        rintro e w6 ⟨rfl, hh⟩
        go_wp2
        go_roundw
        case rel => exact ⟨k + 1, by omega, by go_num, R.2, hh.out, HC2.out⟩
        case measure => simp [intOf]; omega
      · have hkz : ¬ (k : Int) < (n : Int) := by omega
        have HOK := Lib.hid HC.out.1.ok
        have G := Lib.hid (Home.blocks_get HC.out.1 (by have := HC.out.2.ms; omega))
        have HGK := Lib.hid (get_keys C b (fl b))
        have hwk : (keys C.L).length ≤ 1024 := by rw [keys_len]; have := HOK.out.len; have := HOK.out.m1; omega
        have HWK := Lib.hid hwk
        go_wp2_with fail
        refine G.out.mono ?_
        rintro e w5 ⟨va, rfl, hva, hget⟩
        clear G HC HA
        have G := Lib.hid (hget.out b (by have := HB2.out; omega))
        obtain ⟨aoa, ca, rfl, _⟩ := SlI.row hva.out
        clear hva hget
        go_wp2_with fail
        refine (HP2.out _).mono ?_
        rintro e w5' ⟨rfl, rfl⟩
        clear HP2
        rcases HGK.out with ⟨he0, R, hR, hsub, hni⟩ | ⟨hen, hsame⟩
        · have HR := Lib.hid hR
          have HSUB := Lib.hid hsub
          have HNI := Lib.hid (hni HOK.out)
          clear hR hsub hni HGK
          generalize C.get b (fl b) 0 = X at *
          obtain ⟨⟨xs, xe⟩, C1⟩ := X
          have he0' : xe = 0 := he0
          subst he0'
          clear he0
          go_wp2_with fail
          refine G.out.mono ?_
          rintro e w6 ⟨rfl, hva, hh⟩
          clear G
          have G := Lib.hid hh.out.blocksB
          go_wp2_with fail
          refine G.out.mono ?_
          rintro e w7 ⟨vb, rfl, hvb, hb7⟩
          have hva7 := Lib.hid (hva.out.below hb7.out)
          have HB7 : Hid (Below w.heap.size w w7) := hh.out.bel.trans (hb7.out.mono hh.out.bel.size)
          clear G hva hh hb7
          rw [HR.out] at hvb
          have hlr : (b :: R).length ≤ 1025 := by have := HSUB.out.length_le; have := HWK.out; simp; omega
          obtain ⟨aob, cb, rfl, HRB⟩ := SlI.row hvb.out
          obtain ⟨aoa', ca', hva', HRA⟩ := SlI.row hva7.out
          obtain ⟨rfl, rfl⟩ : aoa = aoa' ∧ ca = ca' := by simpa using hva'
          have HRA := Lib.hid HRA
          have HRB := Lib.hid HRB
          clear hva' hva7 hvb
          obtain ⟨gb, hgb, b0⟩ := HRB.out w7 (Below.refl _ _) 0 (by simp)
          subst hgb
          have b0' : w7.cell? ⟨gb, 0, none⟩ = some (.int .i64 b) := b0
          clear b0
          have HN1 : Hid (∀ j, 1 ≤ j → j < (b :: R).length → (b :: R).getD j 0 ≠ b) := by
            intro j h1 hj
            obtain ⟨j, rfl⟩ : ∃ i, j = i + 1 := ⟨j - 1, by omega⟩
            have hj' : j < R.length := by simpa using hj
            rw [getD_at hj]
            exact fun e => HNI.out (by rw [← e]; exact List.getElem_mem hj')
          have HS1 : Hid (((b :: R).drop 1).Sublist ((keys C.L).drop 0)) := HSUB.out
          have hor : 1 ≤ (b :: R).length := by simp
          clear HR HSUB HNI HOK
          generalize (b :: R) = O at *
          generalize keys C.L = W at *
          obtain ⟨m1, hm1⟩ : ∃ m, W.length = m := ⟨_, rfl⟩
          obtain ⟨m2, hm2⟩ : ∃ m, O.length = m := ⟨_, rfl⟩
          have HM1 := Lib.hid hm1
          have HM2 := Lib.hid hm2
          rw [hm1] at hwk ⊢
          rw [hm2] at hor hlr ⊢
          clear hm1 hm2
          have hm20 : ((m2 : Int) == 0) = false := by simp; omega
          have hm00 : (0 : Int) < (m2 : Int) := by omega
          have hbb : (b != b) = false := by simp
          go_wp2_with fail
          go_loopw [16, 17] (fun kv iv wr => ∃ kk ii : Nat, kv = .int .i64 (kk : Int) ∧ iv = .int .i64 (ii : Int) ∧ 1 ≤ ii ∧ ii ≤ m2 ∧ kk ≤ m1 ∧ Hid ((O.drop ii).Sublist (W.drop kk)) ∧ Hid (Below w7.heap.size w7 wr)) (fun _ iv _ => m2 - (intOf iv).toNat)
          case atStart => exact ⟨0, 1, rfl, rfl, Nat.le_refl _, hor, Nat.zero_le _, HS1.out, (show Below _ _ _ from Below.refl _ _)⟩
          case round =>
            obtain ⟨kk, ii, rfl, rfl, hi1, hi2, hkm, HSL, HBL⟩ := hrel
            clear HS1
            by_cases hlt2 : ii < m2
            · have hiz : (ii : Int) < (m2 : Int) := by omega
              go_wp2
              go_loopw [16] (fun kv wr2 => ∃ k2 : Nat, kv = .int .i64 (k2 : Int) ∧ k2 ≤ m1 ∧ Hid ((O.drop ii).Sublist (W.drop k2)) ∧ Hid (Below w7.heap.size w7 wr2)) (fun kv _ => m1 - (intOf kv).toNat)
              case atStart => exact ⟨kk, rfl, hkm, HSL.out, HBL.out⟩
              case round =>
                clear HSL HBL hkm
                obtain ⟨k2, rfl, hkm, HSL, HBL⟩ := hrel
                have hiO : ii < O.length := by rw [HM2.out]; exact hlt2
                by_cases hk2 : k2 < m1
                · have hkz2 : (k2 : Int) < (m1 : Int) := by omega
                  have hkW : k2 < W.length := by rw [HM1.out]; exact hk2
                  obtain ⟨ga, rfl, cka⟩ := HRA.out _ HBL.out k2 hkW
                  obtain ⟨gb', hgb, ckb⟩ := HRB.out _ HBL.out ii hiO
                  obtain rfl : gb = gb' := by simpa using hgb
                  have hzb := HN1.out ii hi1 hiO
                  have HSL2 := Lib.hid (by have := HSL.out; rw [drop_at hiO, drop_at hkW] at this; exact this)
                  have HDI := Lib.hid (drop_at hiO)
                  clear hgb HSL
                  generalize O.getD ii 0 = z at *
                  generalize W.getD k2 0 = y at *
                  by_cases hyb : y = b
                  · have hyb' : (y == b) = true := by simp [hyb]
                    have HSL3 : Hid ((O.drop ii).Sublist (W.drop (k2 + 1))) := by show List.Sublist _ _; rw [HDI.out]; exact sub_skip HSL2.out (fun e => hzb (e.trans hyb))
                    clear hyb hzb
                    go_wp2
                    go_quiet (fail)
                    go_wp2
                    go_roundw
                    case rel => exact ⟨k2 + 1, by go_num, by omega, HSL3.out, (show Below _ _ _ from HBL.out.trans (below_drewN (Below.refl _ _) _))⟩
                    case measure => simp [intOf]; omega
                  · have hyb' : (y == b) = false := beq_eq_false_iff_ne.2 hyb
                    by_cases hyz : y = z
                    · have hyz' : (y != z) = false := by simp [hyz]
                      have HSL3 : Hid ((O.drop (ii + 1)).Sublist (W.drop (k2 + 1))) := by have := HSL2.out; rw [hyz] at this; exact List.cons_sublist_cons.1 this
                      clear hyb hyz hzb
                      have hkm' : ((k2 : Int) == (m1 : Int)) = false := by simp; omega
                      go_wp2
                      go_quiet (fail)
                      go_wp2
                      go_roundw
                      case rel => exact ⟨k2 + 1, ii + 1, by go_num, by go_num, by omega, by omega, by omega, HSL3.out, (show Below _ _ _ from HBL.out.trans (below_drewN (Below.refl _ _) _))⟩
                      case measure => simp [intOf]; omega
                    · have hyz' : (y != z) = true := by simp [hyz]
                      have HSL3 : Hid ((O.drop ii).Sublist (W.drop (k2 + 1))) := by show List.Sublist _ _; rw [HDI.out]; exact sub_skip HSL2.out (fun e => hyz e.symm)
                      clear hyb hyz hzb
                      go_wp2
                      go_quiet (fail)
                      go_wp2
                      go_roundw
                      case rel => exact ⟨k2 + 1, by go_num, by omega, HSL3.out, (show Below _ _ _ from HBL.out.trans (below_drewN (Below.refl _ _) _))⟩
                      case measure => simp [intOf]; omega
                · exfalso
                  have := HSL.out.length_le
                  rw [List.length_drop, List.length_drop, HM1.out, HM2.out] at this
                  omega
            · have hiz : ¬ (ii : Int) < (m2 : Int) := by omega
              go_wp2
              go_ret
              exact ⟨rfl, HB7.out.trans (HBL.out.mono HB7.out.size)⟩
        · generalize C.get b (fl b) 0 = X at *
          obtain ⟨⟨xs, xe⟩, C1⟩ := X
          have hs : C1 = C := hsame
          subst hs
          have hne : (xe != 0) = true := by simpa using hen
          clear hsame hen HGK
          go_wp2_with fail
          refine G.out.mono ?_
          rintro e w6 ⟨rfl, hva, hh⟩
          clear G
          have G := Lib.hid hh.out.blocksB
          go_wp2_with fail
          refine G.out.mono ?_
          rintro e w7 ⟨vb, rfl, hvb, hb7⟩
          have HB7 : Hid (Below w.heap.size w w7) := hh.out.bel.trans (hb7.out.mono hh.out.bel.size)
          obtain ⟨aob, cb, rfl, _⟩ := SlI.row hvb.out
          clear G hva hh hb7 hvb
          generalize (keys C1.L).length = m at *
          go_wp2
          go_ret
          exact ⟨by simp, HB7.out⟩
end
end Go.Proofs.Yteeoglfgilabaaa
/- The source that counts; a cache of it. -/
namespace Go.Proofs.Yteeoglfgilabaaa
open Go.RowKit

abbrev srcN (cn : Nat) : Value := .iface 59 (.agg #[.pointer (some ⟨cn, 0, none⟩)])
theorem enters_count : ∀ args w, (callFunc 91 args).run Try.prog w = .ok (.enter 91 args) w := enters_of Try.func91 (by kernel_rfl) rfl
theorem meth_count (cn : Nat) : ∀ w, (method (Try.prog.types.size + Made.depth) 59 (.agg #[.pointer (some ⟨cn, 0, none⟩)]) "Read").run Try.prog w = .ok (91, .agg #[.pointer (some ⟨cn, 0, none⟩)]) w := fun _ => by kernel_rfl
theorem box_cn (w : World) (cn : Nat) : ∃ W, w.alloc (.cells #[.pointer (some ⟨cn, 0, none⟩)] 59) = W ∧ W.cell? ⟨w.heap.size, 0, none⟩ = some (.pointer (some ⟨cn, 0, none⟩)) ∧ Below w.heap.size w W ∧ w.heap.size < W.heap.size :=
  ⟨_, rfl, by rw [World.cell?_alloc_mark]; rfl, (Below.refl _ _).alloc (Nat.le_refl _) _, by simp⟩
set_option maxRecDepth 100000 in
set_option maxHeartbeats 1000000 in
theorem count_any (cn : Nat) (k : Int) (hk : 0 ≤ k ∧ k < 1000000) (i : Int) (w : World) (hl : cn < w.heap.size) (hc : w.cell? ⟨cn, 0, none⟩ = some (.int .i64 k)) (hf : w.frozen? ⟨cn, 0, none⟩ = false) :
    Calls Try.prog 91 #[.agg #[.pointer (some ⟨cn, 0, none⟩)], .int .i64 i] w fun e w' => e = .returned (.tuple #[.string (told i), .int .i64 (toldE i)]) ∧ Only (fun j => j = cn) w w' ∧ w'.cell? ⟨cn, 0, none⟩ = some (.int .i64 (k + 1)) ∧ w'.frozen? ⟨cn, 0, none⟩ = false := by
  have HR : Hid (∀ W, Calls Try.prog 21 #[.agg #[], .int .i64 i] W fun e w' => e = .returned (.tuple #[.string (told i), .int .i64 (toldE i)]) ∧ Hid (Below W.heap.size W w')) := fun W => read_any i W _ rfl
  obtain ⟨X, hX, b0, hb, hsz⟩ := box_cn w cn
  have cx := (hb.cell (p := ⟨cn, 0, none⟩) hl).trans hc
  have fx := (World.frozen?_of_block (a := ⟨cn, 0, none⟩) (hb.block cn hl)).trans hf
  have HO : Hid (Only (fun j => j = cn) w X) := Only.of_below _ hb (Nat.le_refl _)
  have hlx : cn < X.heap.size := Nat.lt_trans hl hsz
  have hw : IntKind.i64.wrap (k + 1) = k + 1 := IntWalk.i64_in _ (by omega)
  clear hb hc hf hl hsz
  go_enter Try.func91, Try.ntmps91
  go_wp2_with fail
  go_region
  have HO2 : Hid (Only (fun j => j = cn) w (X.setCell ⟨cn, 0, none⟩ (.int .i64 (k + 1))).drew) := (HO.out.setCell (p := ⟨cn, 0, none⟩) (fun _ => rfl) _).trans (Only.of_below _ ((Below.refl _ _).drew) (Nat.le_refl _)) (fun _ _ h => h)
  have HC2 : Hid ((X.setCell ⟨cn, 0, none⟩ (.int .i64 (k + 1))).drew.cell? ⟨cn, 0, none⟩ = some (.int .i64 (k + 1))) := World.cell?_setCell_same _ _ _ cx
  have HF2 : Hid ((X.setCell ⟨cn, 0, none⟩ (.int .i64 (k + 1))).drew.frozen? ⟨cn, 0, none⟩ = false) := by show World.frozen? (X.setCell _ _) _ = false; rw [World.frozen?_setCell]; exact fx
  have HL2 : Hid (cn < (X.setCell ⟨cn, 0, none⟩ (.int .i64 (k + 1))).drew.heap.size) := by show cn < _; simpa [World.setCell] using hlx
  generalize (X.setCell ⟨cn, 0, none⟩ (.int .i64 (k + 1))).drew = X2 at *
  clear cx fx b0 hX
  go_wp2_with fail
  refine (HR.out _).mono ?_
  rintro e w2 ⟨rfl, hb2⟩
  go_wp2
  go_ret2
  exact ⟨rfl, HO2.out.trans (Only.of_below _ hb2.out (Nat.le_refl _)) (fun _ _ h => h), (hb2.out.cell (p := ⟨cn, 0, none⟩) HL2.out).trans HC2.out, (World.frozen?_of_block (a := ⟨cn, 0, none⟩) (hb2.out.block cn HL2.out)).trans HF2.out⟩

/-- A cache of the source that counts in block cn, where k stands. -/
structure HomeN (w0 w : World) (p cn : Nat) (k : Int) (C : CS) : Prop where
  home : ∃ S : Nat → Prop, (∀ j, S j → w0.heap.size ≤ j) ∧ ¬ S cn ∧ Cch S w p (srcN cn) C
  lo : w0.heap.size ≤ cn
  hi : cn < w.heap.size
  cell : w.cell? ⟨cn, 0, none⟩ = some (.int .i64 k)
  free : w.frozen? ⟨cn, 0, none⟩ = false
  bel : Below w0.heap.size w0 w
def asked (C : CS) (i : Int) : Int := if i ∈ keys C.L then 0 else 1
section
variable {S : Nat → Prop} {w0 w w' w1 : World} {p cn : Nat} {k : Int} {C C' : CS}
theorem HomeN.ok (h : HomeN w0 w p cn k C) : C.Ok := by obtain ⟨S, _, _, hc⟩ := h.home; exact hc.ok
theorem HomeN.below (h : HomeN w0 w p cn k C) (hb : Below w.heap.size w w') : HomeN w0 w' p cn k C := by
  obtain ⟨S, h1, h2, h3⟩ := h.home
  exact ⟨⟨S, h1, h2, h3.below hb⟩, h.lo, Nat.lt_of_lt_of_le h.hi hb.size, (hb.cell (p := ⟨cn, 0, none⟩) h.hi).trans h.cell, (World.frozen?_of_block (a := ⟨cn, 0, none⟩) (hb.block cn h.hi)).trans h.free, h.bel.trans (hb.mono h.bel.size)⟩
theorem homeN_leaves (h : HomeN w0 w p cn k C) (h1 : ∀ j, S j → w0.heap.size ≤ j) (h2 : ¬ S cn) (hl : CLeaves S w w' p (srcN cn) C') : HomeN w0 w' p cn k C' := by
  obtain ⟨S', i1, i2, i3⟩ := hl
  refine ⟨⟨S', fun j hj => ?_, fun hj => ?_, i2⟩, h.lo, Nat.lt_of_lt_of_le h.hi i3.size, (i3.cell (p := ⟨cn, 0, none⟩) h.hi h2).trans h.cell, (World.frozen?_of_block (a := ⟨cn, 0, none⟩) (i3.block cn h.hi h2)).trans h.free, h.bel.trans (i3.below h.bel.size (fun j _ hj => h1 j hj))⟩
  · rcases i1 j hj with e | e
    · exact h1 j e
    · exact Nat.le_trans h.bel.size e
  · rcases i1 cn hj with e | e
    · exact h2 e
    · have := h.hi; omega
theorem HomeN.get (h : HomeN w0 w p cn k C) (hk : 0 ≤ k ∧ k < 1000000) (i : Int) (hi : -9223372036854775808 ≤ i ∧ i ≤ 9223372036854775807) (hms : C.misses < 1000000) :
    Calls Try.prog 22 #[.pointer (some ⟨p, 0, none⟩), .int .i64 i] w fun e w' => e = .returned (.tuple #[.string (C.get i (told i) (toldE i)).1.1, .int .i64 (C.get i (told i) (toldE i)).1.2]) ∧ Hid (HomeN w0 w' p cn (k + asked C i) (C.get i (told i) (toldE i)).2) := by
  obtain ⟨S, h1, h2, bm, ov, h3⟩ := h.home
  cases hf : fx C.L i with
  | some ky =>
    obtain ⟨j, y⟩ := ky
    have e : C.get i (told i) (toldE i) = ((y.data, 0), { C with L := y :: C.L.eraseIdx j }) := by unfold CS.get; rw [hf]
    have ea : asked C i = 0 := by
      unfold asked; rw [if_pos]
      rw [← (fx_some hf).2.2.1]; exact List.mem_map.2 ⟨y, fx_mem hf, rfl⟩
    rw [e, ea, Int.add_zero]
    exact (get_hit i j y hf h3).mono fun e w' ⟨he, hl⟩ => ⟨he, homeN_leaves h h1 h2 hl⟩
  | none =>
    have ea : asked C i = 1 := by unfold asked; rw [if_neg (fx_none_iff.1 hf)]
    rw [ea]
    refine (get_miss i hi hf 59 _ rfl h3 hms 91 (told i) (toldE i) (Nat.le_trans (told_size i) (by decide)) (fun j => j = cn) (fun w' => w'.cell? ⟨cn, 0, none⟩ = some (.int .i64 (k + 1)) ∧ w'.frozen? ⟨cn, 0, none⟩ = false) (fun j hj => by subst hj; exact ⟨h2, h.hi⟩) (meth_count cn) enters_count
      (fun W hW => ?_)).mono fun e w' ⟨w1, ⟨hc, hfr⟩, ho, he, hl⟩ => ⟨he, ?_⟩
    · exact count_any cn k hk i W (Nat.lt_of_lt_of_le h.hi hW.size) ((hW.cell (p := ⟨cn, 0, none⟩) h.hi).trans h.cell) ((World.frozen?_of_block (a := ⟨cn, 0, none⟩) (hW.block cn h.hi)).trans h.free)
    · have hc1 : HomeN w0 w1 p cn (k + 1) C := ⟨⟨S, h1, h2, bm, ov, h3.kept ho (fun j hj e => h2 (e ▸ hj))⟩, h.lo, Nat.lt_of_lt_of_le h.hi ho.size, hc, hfr, h.bel.trans (ho.below h.bel.size (fun j _ e => by subst e; exact h.lo))⟩
      exact homeN_leaves hc1 h1 h2 hl
/-- Does the source's count grow by an act? -/
def askedA (C : CS) (a : Act6) : Int := if a.q < 4 then asked C a.i else 0
theorem HomeN.does {N : Nat} (h : HomeN w0 w p cn k C) (a : Act6) (ha : a.Ok) (hb : Bd N C) (hN : N < 1000000) (hk : 0 ≤ k ∧ k < 1000000) :
    Calls Try.prog 13 #[.pointer (some ⟨p, 0, none⟩), .agg #[.int .i64 a.op, .int .i64 a.at_, .int .u8 a.b, .bool a.bad]] w fun e w' => e = .returned (.tuple #[.string (C.does a).1.1, .int .i64 (C.does a).1.2]) ∧ Hid (HomeN w0 w' p cn (k + askedA C a) (C.does a).2) := by
  obtain ⟨S, h1, h2, h3⟩ := h.home
  have hq := a.q_lt
  have hp : ∀ x ∈ C.L, x.pins < 1000000 := fun x hx => by have := hb.pn x hx; omega
  have hm : C.misses < 1000000 := by have := hb.ms; omega
  unfold CS.does askedA
  by_cases q4 : a.q = 4 ∨ a.q = 5
  · rw [if_pos q4, if_neg (by omega), Int.add_zero]
    exact (does_put a ha q4 h3).mono fun e w' ⟨he, hl⟩ => ⟨he, homeN_leaves h h1 h2 hl⟩
  · rw [if_neg q4]
    by_cases q6 : a.q = 6
    · rw [if_pos q6, if_neg (by omega), Int.add_zero]
      exact (does_pin a ha q6 h3 hp).mono fun e w' ⟨he, hl⟩ => ⟨he, homeN_leaves h h1 h2 hl⟩
    · rw [if_neg q6]
      by_cases q7 : a.q = 7
      · rw [if_pos q7, if_neg (by omega), Int.add_zero]
        exact (does_unpin a ha q7 h3).mono fun e w' ⟨he, hl⟩ => ⟨he, homeN_leaves h h1 h2 hl⟩
      · rw [if_neg q7]
        by_cases q8 : a.q = 8
        · rw [if_pos q8, if_neg (by omega), Int.add_zero]
          exact (does_clean a ha q8 h3).mono fun e w' ⟨he, hl⟩ => ⟨he, homeN_leaves h h1 h2 hl⟩
        · rw [if_neg q8]
          by_cases q9 : a.q = 9
          · rw [if_pos q9, if_neg (by omega), Int.add_zero]
            exact (does_drop a ha q9 h3).mono fun e w' ⟨he, hl⟩ => ⟨he, homeN_leaves h h1 h2 hl⟩
          · rw [if_neg q9, if_pos (by omega)]
            refine does_get a ha (by omega) _ _ (fun w' => Hid (HomeN w0 w' p cn (k + asked C a.i) (C.get a.i (told a.i) (toldE a.i)).2)) fun W hW => ?_
            exact (h.below hW).get hk a.i ha.i hm
theorem HomeN.misses (h : HomeN w0 w p cn k C) : Calls Try.prog 15 #[.pointer (some ⟨p, 0, none⟩)] w fun e w' => e = .returned (.int .i64 (C.misses : Int)) ∧ w = w' := by
  obtain ⟨S, h1, h2, h3⟩ := h.home
  exact misses_any h3
theorem HomeN.blocksB (h : HomeN w0 w p cn k C) : Calls Try.prog 16 #[.pointer (some ⟨p, 0, none⟩)] w fun e w' => ∃ v, e = .returned v ∧ Hid (SlI w' v (keys C.L)) ∧ Hid (Below w.heap.size w w') := by
  obtain ⟨S, h1, h2, h3⟩ := h.home
  exact (blocks_any h3).mono fun e w' ⟨v, he, hr, hb⟩ => ⟨v, he, SlI.of_own hr, hb⟩
theorem does_misses (C : CS) (a : Act6) : ((C.does a).2.misses : Int) = C.misses + (if a.q < 4 ∧ a.i ∉ keys C.L ∧ (C.does a).1.2 = 0 then 1 else 0) := by
  have hq := a.q_lt
  unfold CS.does
  by_cases q4 : a.q = 4 ∨ a.q = 5
  · rw [if_pos q4, if_neg (by omega), Int.add_zero]
    show ((C.put a.i a.s).2.misses : Int) = _
    unfold CS.put
    split
    · rfl
    · split
      · rfl
      · split <;> rfl
  · rw [if_neg q4]
    by_cases q6 : a.q = 6
    · rw [if_pos q6, if_neg (by omega), Int.add_zero]
      show ((C.pin a.i).2.misses : Int) = _
      unfold CS.pin
      split <;> rfl
    · rw [if_neg q6]
      by_cases q7 : a.q = 7
      · rw [if_pos q7, if_neg (by omega), Int.add_zero]
        show ((C.unpin a.i).2.misses : Int) = _
        unfold CS.unpin
        split
        · split <;> rfl
        · rfl
      · rw [if_neg q7]
        by_cases q8 : a.q = 8
        · rw [if_pos q8, if_neg (by omega), Int.add_zero]; rfl
        · rw [if_neg q8]
          by_cases q9 : a.q = 9
          · rw [if_pos q9, if_neg (by omega), Int.add_zero]; rfl
          · rw [if_neg q9]
            unfold CS.get
            cases hf : fx C.L a.i with
            | some ky =>
              obtain ⟨j, y⟩ := ky
              have hm : a.i ∈ keys C.L := by rw [← (fx_some hf).2.2.1]; exact List.mem_map.2 ⟨y, fx_mem hf, rfl⟩
              show (C.misses : Int) = C.misses + (if a.q < 4 ∧ a.i ∉ keys C.L ∧ (0 : Int) = 0 then 1 else 0)
              rw [if_neg (fun hh => hh.2.1 hm), Int.add_zero]
            | none =>
              have hni := fx_none_iff.1 hf
              simp only
              by_cases he : toldE a.i ≠ 0
              · rw [if_pos he, if_neg (fun hh => he hh.2.2), Int.add_zero]
              · rw [if_neg he]
                cases hr : room C.L C.most with
                | none => rw [if_neg (fun hh => by have h2 : (14 : Int) = 0 := hh.2.2; omega), Int.add_zero]
                | some M => rw [if_pos ⟨by omega, hni, rfl⟩]; show ((C.misses + 1 : Nat) : Int) = _; omega
end
end Go.Proofs.Yteeoglfgilabaaa
/- The walk of CacheAsks. -/
namespace Go.Proofs.Yteeoglfgilabaaa
open Go.RowKit

theorem new_count (q cn : Nat) (w0 w : World) (hb : Below w0.heap.size w0 w) (hq : q < 8) (h1 : w0.heap.size ≤ cn) (h2 : cn < w.heap.size) (hc : w.cell? ⟨cn, 0, none⟩ = some (.int .i64 0)) (hf : w.frozen? ⟨cn, 0, none⟩ = false) :
    Calls Try.prog 10 #[srcN cn, .int .i64 (1 + (q : Int))] w fun e w' => ∃ p, e = .returned (.tuple #[.pointer (some ⟨p, 0, none⟩), .int .i64 0]) ∧ Hid (HomeN w0 w' p cn 0 (CS.new (1 + q))) := by
  have := new_yes 59 (.agg #[.pointer (some ⟨cn, 0, none⟩)]) (1 + q) w (by omega) (by omega)
  rw [Int.natCast_add] at this
  refine this.mono fun e w' ⟨p, he, S, hS, hcc, hb'⟩ => ⟨p, he, ⟨S, fun k hk => Nat.le_trans hb.size (hS k hk), fun hk => by have := hS cn hk; omega, hcc⟩, h1, Nat.lt_of_lt_of_le h2 hb'.size, ?_, ?_, hb.trans (hb'.mono hb.size)⟩
  · exact (hb'.cell (p := ⟨cn, 0, none⟩) h2).trans hc
  · exact (World.frozen?_of_block (a := ⟨cn, 0, none⟩) (hb'.block cn h2)).trans hf
theorem int_new (w : World) : ∃ W, w.alloc (.cells #[.int .i64 0] 3) = W ∧ W.cell? ⟨w.heap.size, 0, none⟩ = some (.int .i64 0) ∧ W.frozen? ⟨w.heap.size, 0, none⟩ = false ∧ Below w.heap.size w W ∧ w.heap.size < W.heap.size :=
  ⟨_, rfl, by rw [World.cell?_alloc_mark]; rfl, free_at (heap_alloc_new ..) 0, (Below.refl _ _).alloc (Nat.le_refl _) _, by simp⟩
abbrev HeldG (g o : Nat) (A : Act6) (W : World) : Prop := W.cell? ⟨g, o, none⟩ = some (.int .i64 A.op) ∧ W.cell? ⟨g, o + 1, none⟩ = some (.int .i64 A.at_) ∧ W.cell? ⟨g, o + 2, none⟩ = some (.int .u8 A.b) ∧ W.cell? ⟨g, o + 3, none⟩ = some (.bool A.bad)
theorem HeldG.below {g o : Nat} {A : Act6} {W W' : World} (h : HeldG g o A W) (hb : Below W.heap.size W W') (hl : g < W.heap.size) : HeldG g o A W' :=
  ⟨(hb.cell (p := ⟨g, o, none⟩) hl).trans h.1, (hb.cell (p := ⟨g, o + 1, none⟩) hl).trans h.2.1, (hb.cell (p := ⟨g, o + 2, none⟩) hl).trans h.2.2.1, (hb.cell (p := ⟨g, o + 3, none⟩) hl).trans h.2.2.2⟩

theorem asks_cases (C : CS) (A : Act6) : (¬ A.q < 4 ∧ askedA C A = 0 ∧ ((C.does A).2.misses : Int) = C.misses) ∨ (A.q < 4 ∧ decide (A.i ∈ keys C.L) = true ∧ askedA C A = 0 ∧ ((C.does A).2.misses : Int) = C.misses) ∨
    (A.q < 4 ∧ decide (A.i ∈ keys C.L) = false ∧ askedA C A = 1 ∧ (C.does A).1.2 = 0 ∧ ((C.does A).2.misses : Int) = C.misses + 1) ∨ (A.q < 4 ∧ decide (A.i ∈ keys C.L) = false ∧ askedA C A = 1 ∧ (C.does A).1.2 ≠ 0 ∧ ((C.does A).2.misses : Int) = C.misses) := by
  have hm := does_misses C A
  unfold askedA asked
  by_cases h4 : A.q < 4
  · rw [if_pos h4]
    by_cases hk : A.i ∈ keys C.L
    · rw [if_neg (fun h => h.2.1 hk), Int.add_zero] at hm
      exact .inr (.inl ⟨h4, decide_eq_true hk, if_pos hk, hm⟩)
    · by_cases he : (C.does A).1.2 = 0
      · rw [if_pos ⟨h4, hk, he⟩] at hm
        exact .inr (.inr (.inl ⟨h4, decide_eq_false hk, if_neg hk, he, hm⟩))
      · rw [if_neg (fun h => he h.2.2), Int.add_zero] at hm
        exact .inr (.inr (.inr ⟨h4, decide_eq_false hk, if_neg hk, he, hm⟩))
  · rw [if_neg (fun h => h4 h.1), Int.add_zero] at hm
    rw [if_neg h4]
    exact .inl ⟨h4, rfl, hm⟩

set_option maxRecDepth 100000 in
set_option maxHeartbeats 4000000 in
theorem asks_any (a0 : Int) (v1 : Value) (L : List Act6) (w : World) (h0 : -9223372036854775808 ≤ a0 ∧ a0 ≤ 9223372036854775807) (hA : Acts6 w v1 L) :
    Calls Try.prog 6 #[.int .i64 a0, v1] w fun e w' => e = .returned (.bool true) ∧ Below w.heap.size w w' := by
  have HS := Lib.hid (shown_any w)
  obtain ⟨ao, cap, hv⟩ : ∃ ao cap, v1 = .slice ao L.length cap := by obtain ⟨_, _, ao, cap, hv, _⟩ := hA; exact ⟨ao, cap, hv⟩
  have hlen := hA.2.1
  have HA := Lib.hid hA
  have HV := Lib.hid hv
  obtain ⟨n, hn⟩ : ∃ n, L.length = n := ⟨_, rfl⟩
  have HN := Lib.hid hn
  rw [hn] at hlen hv
  subst hv
  clear hn hA
  by_cases hl : 200 < n
  · have hlz : (200 : Int) < (n : Int) := by omega
    clear hl h0
    go_enter Try.func6, Try.ntmps6
    go_wp2_with fail
    refine HS.out.mono ?_
    rintro e w1 ⟨rfl, hb⟩
    go_wp2
    go_ret
    exact ⟨rfl, hb.out⟩
  · have hlz : ¬ (200 : Int) < (n : Int) := by omega
    obtain ⟨q, hq, hqe⟩ := many_nat 0 a0
    have HP0 : Hid (∀ W, Calls Try.prog 12 #[.int .i64 a0, .int .i64 8] W fun e w' => e = .returned (.int .i64 (q : Int)) ∧ W = w') := fun W => by rw [← hqe]; exact pick_any a0 8 W h0 (by omega)
    clear hqe h0 hl
    go_enter Try.func6, Try.ntmps6
    go_wp2_with fail
    refine HS.out.mono ?_
    rintro e w1 ⟨rfl, hb⟩
    obtain ⟨X, hX, x0, xf, hbx, hsz⟩ := int_new w1
    have hb2 : Below w.heap.size w X := hb.out.trans (hbx.mono hb.out.size)
    have HNEW := Lib.hid (new_count q w1.heap.size w X hb2 hq hb.out.size hsz x0 xf)
    have HX := Lib.hid hX
    clear hb hb2 hbx x0 xf hsz hX
    go_wp2_with fail
    rw [HX.out]
    refine (HP0.out _).mono ?_
    rintro e w1' ⟨rfl, rfl⟩
    go_wp2_with fail
    refine HNEW.out.mono ?_
    rintro e w2 ⟨p, rfl, c0⟩
    clear HNEW HP0 HX
    generalize w1.heap.size = cn at *
    have HST := Lib.hid (Bd.new (1 + q))
    generalize CS.new (1 + q) = C0 at *
    go_wp2_with fail
    go_loopw [9, 10, 11, 12, 13, 14, 15, 16, 17] (fun iv _ _ _ _ _ _ _ _ wr => ∃ j : Nat, j ≤ n ∧ iv = .int .i64 (j : Int) ∧ Hid (∃ k C, HomeN w wr p cn k C ∧ 0 ≤ k ∧ k ≤ (j : Int) ∧ Bd j C)) (fun iv _ _ _ _ _ _ _ _ _ => n - (intOf iv).toNat)
    case atStart => exact ⟨0, Nat.zero_le _, rfl, 0, C0, c0.out, by omega, by omega, HST.out⟩
    case round =>
      obtain ⟨j, hj, rfl, HI⟩ := hrel
      obtain ⟨k, C, hC⟩ := HI.out
      have HC := Lib.hid hC
      clear hC HI c0 HST
      have HB0 := Lib.hid HC.out.1.bel
      by_cases hlt : j < n
      · have hkz : (j : Int) < (n : Int) := by omega
        have hkL : j < L.length := by rw [HN.out]; exact hlt
        obtain ⟨g, off, cap', hv', d0, d1, d2, d3⟩ := HA.out.cell HC.out.1.bel j hkL
        obtain ⟨rfl, hnl, rfl⟩ : ao = some ⟨g, off, none⟩ ∧ n = L.length ∧ cap = cap' := by simpa using hv'
        have HAO := Lib.hid (HA.out.1 L[j] (List.getElem_mem hkL))
        have HD : Hid (∀ W, Below w.heap.size w W → HeldG g (off + j * 4) L[j] W) := by
          intro W hW
          obtain ⟨g', off', cap'', hv'', i0, i1, i2, i3⟩ := HA.out.cell hW j hkL
          obtain ⟨⟨rfl, rfl⟩, _, _⟩ : (g = g' ∧ off = off') ∧ n = L.length ∧ cap = cap'' := by simpa using hv''
          exact ⟨i0, i1, i2, i3⟩
        have hgl := (World.block_lt_of_cell? _ _ d0 : g < wr.heap.size)
        clear hv' hnl
        generalize L[j] = A at *
        have hk0 := HC.out.2.1
        have hkj := HC.out.2.2.1
        have HP := pickA A HAO.out
        have HAT := atA A HAO.out
        have hqlt := A.q_lt
        have cnc := HC.out.1.cell
        have HM := Lib.hid HC.out.1.misses
        have HBLK : Hid (∀ W, Below wr.heap.size wr W → Calls Try.prog 16 #[.pointer (some ⟨p, 0, none⟩)] W fun e w' => ∃ v, e = .returned v ∧ Hid (SlI w' v (keys C.L)) ∧ Hid (Below W.heap.size W w')) := fun W hW => (HC.out.1.below hW).blocksB
        have HCS := Lib.hid (asks_cases C A)
        have HBD := Lib.hid (HC.out.2.2.2.does A)
        have hms0 : (0 : Int) ≤ (C.misses : Int) := by omega
        have hmsb : (C.misses : Int) ≤ 200 := by have := HC.out.2.2.2.ms; omega
        have HLK := Lib.hid HC.out.1.ok
        have HLK2 : Hid ((keys C.L).length ≤ 5000) := by show _ ≤ _; rw [keys_len]; have := HLK.out.len; have := HLK.out.m1; omega
        have HHAS : Hid (∀ W v, SlI W v (keys C.L) → Calls Try.prog 24 #[v, .int .i64 A.i] W fun e w' => e = .returned (.bool (decide (A.i ∈ keys C.L))) ∧ W = w') := fun W v hv => has_any (keys C.L) A.i v W hv HLK2.out
        have HDO : Hid (∀ W, Below wr.heap.size wr W → Calls Try.prog 13 #[.pointer (some ⟨p, 0, none⟩), .agg #[.int .i64 A.op, .int .i64 A.at_, .int .u8 A.b, .bool A.bad]] W fun e w' => e = .returned (.tuple #[.string (C.does A).1.1, .int .i64 (C.does A).1.2]) ∧ Hid (HomeN w w' p cn (k + askedA C A) (C.does A).2)) := fun W hW => (HC.out.1.below hW).does A HAO.out HC.out.2.2.2 (by omega) (by omega)
        clear HC HLK HLK2
        have HCA := HCS.out
        clear HCS
        generalize hR : C.does A = R at *
        generalize decide (A.i ∈ keys C.L) = kb at *
        generalize askedA C A = ak at *
        generalize (C.misses : Int) = ms at *
        clear hR
        obtain ⟨⟨rs, re⟩, R2⟩ := R
        simp only at HCA HDO HBD
        rcases HCA with ⟨h4, rfl, hm⟩ | ⟨h4, rfl, rfl, hm⟩ | ⟨h4, rfl, rfl, he, hm⟩ | ⟨h4, rfl, rfl, he, hm⟩
        rotate_left 2
        · subst he
          have HMM := Lib.hid hm
          clear hm
          generalize A.q = q4 at *
          go_wp2_with fail
          refine HM.out.mono ?_
          rintro e w3 ⟨rfl, rfl⟩
          go_wp2_with fail
          go_region_held3 (HeldG g (off + j * 4) A)
            (first | exact ⟨d0, d1, d2, d3⟩ | assumption)
            (first
              | (go_at_call 16; refine (HBLK.out _ ((Below.refl _ _).drew)).mono ?_; rintro e w4 ⟨v, rfl, hv, hb'⟩; have hb4 : Hid (Below wr.heap.size wr w4) := below_pd hb'.out; have hh4 := (show HeldG g (off + j * 4) A wr from ⟨d0, d1, d2, d3⟩).below hb4.out hgl; clear hb')
              | (go_at_call 19; refine (HAT.out _).mono ?_; rintro e w5 ⟨rfl, hb'⟩; have hb5 : Hid (Below wr.heap.size wr w5) := hb4.out.trans (hb'.out.mono hb4.out.size); have hv5 := Lib.hid (hv.out.below hb'.out); have hh5 := (show HeldG g (off + j * 4) A wr from ⟨d0, d1, d2, d3⟩).below hb5.out hgl; clear hb')
              | (go_at_call 24; refine (HHAS.out _ _ hv5.out).mono ?_; rintro e w6 ⟨rfl, rfl⟩))
          have G := Lib.hid (HDO.out _ hb5.out)
          obtain ⟨e0, e1, e2, e3⟩ := hh5
          clear hh4 d0 d1 d2 d3
          go_wp2_with fail
          refine G.out.mono ?_
          rintro e w7 ⟨rfl, hn7⟩
          clear e0 e1 e2 e3 cnc
          obtain ⟨f0, f1, f2, f3⟩ := HD.out w7 hn7.out.bel
          have cn7 := hn7.out.cell
          have HM7 := hn7.out.misses
          rw [HMM.out] at HM7
          have HM7 := Lib.hid HM7
          go_wp2_with fail
          refine (HP.out _).mono ?_
          rintro e w8 ⟨rfl, rfl⟩
          go_wp2_with fail
          refine HM7.out.mono ?_
          rintro e w9 ⟨rfl, rfl⟩
          go_wp2
          go_roundw
          case rel => exact ⟨j + 1, by omega, by go_num, _, R2, hn7.out, by omega, by omega, HBD.out⟩
          case measure => simp [intOf]; omega
        · have hre : (re == 0) = false := beq_eq_false_iff_ne.2 he
          clear he
          have HMM := Lib.hid hm
          clear hm
          generalize A.q = q4 at *
          go_wp2_with fail
          refine HM.out.mono ?_
          rintro e w3 ⟨rfl, rfl⟩
          go_wp2_with fail
          go_region_held3 (HeldG g (off + j * 4) A)
            (first | exact ⟨d0, d1, d2, d3⟩ | assumption)
            (first
              | (go_at_call 16; refine (HBLK.out _ ((Below.refl _ _).drew)).mono ?_; rintro e w4 ⟨v, rfl, hv, hb'⟩; have hb4 : Hid (Below wr.heap.size wr w4) := below_pd hb'.out; have hh4 := (show HeldG g (off + j * 4) A wr from ⟨d0, d1, d2, d3⟩).below hb4.out hgl; clear hb')
              | (go_at_call 19; refine (HAT.out _).mono ?_; rintro e w5 ⟨rfl, hb'⟩; have hb5 : Hid (Below wr.heap.size wr w5) := hb4.out.trans (hb'.out.mono hb4.out.size); have hv5 := Lib.hid (hv.out.below hb'.out); have hh5 := (show HeldG g (off + j * 4) A wr from ⟨d0, d1, d2, d3⟩).below hb5.out hgl; clear hb')
              | (go_at_call 24; refine (HHAS.out _ _ hv5.out).mono ?_; rintro e w6 ⟨rfl, rfl⟩))
          have G := Lib.hid (HDO.out _ hb5.out)
          obtain ⟨e0, e1, e2, e3⟩ := hh5
          clear hh4 d0 d1 d2 d3
          go_wp2_with fail
          refine G.out.mono ?_
          rintro e w7 ⟨rfl, hn7⟩
          clear e0 e1 e2 e3 cnc
          obtain ⟨f0, f1, f2, f3⟩ := HD.out w7 hn7.out.bel
          have cn7 := hn7.out.cell
          have HM7 := hn7.out.misses
          rw [HMM.out] at HM7
          have HM7 := Lib.hid HM7
          go_wp2_with fail
          refine (HP.out _).mono ?_
          rintro e w8 ⟨rfl, rfl⟩
          go_wp2_with fail
          refine HM7.out.mono ?_
          rintro e w9 ⟨rfl, rfl⟩
          go_wp2
          go_roundw
          case rel => exact ⟨j + 1, by omega, by go_num, _, R2, hn7.out, by omega, by omega, HBD.out⟩
          case measure => simp [intOf]; omega
        · have HMM := Lib.hid hm
          clear hm
          generalize A.q = q4 at *
          go_wp2_with fail
          refine HM.out.mono ?_
          rintro e w3 ⟨rfl, rfl⟩
          go_wp2_with fail
          go_region_held3 (HeldG g (off + j * 4) A)
            (first | exact ⟨d0, d1, d2, d3⟩ | assumption)
            (first
              | (go_at_call 16; refine (HBLK.out _ ((Below.refl _ _).drew)).mono ?_; rintro e w4 ⟨v, rfl, hv, hb'⟩; have hb4 : Hid (Below wr.heap.size wr w4) := below_pd hb'.out; have hh4 := (show HeldG g (off + j * 4) A wr from ⟨d0, d1, d2, d3⟩).below hb4.out hgl; clear hb')
              | (go_at_call 19; refine (HAT.out _).mono ?_; rintro e w5 ⟨rfl, hb'⟩; have hb5 : Hid (Below wr.heap.size wr w5) := hb4.out.trans (hb'.out.mono hb4.out.size); have hv5 := Lib.hid (hv.out.below hb'.out); have hh5 := (show HeldG g (off + j * 4) A wr from ⟨d0, d1, d2, d3⟩).below hb5.out hgl; clear hb')
              | (go_at_call 24; refine (HHAS.out _ _ hv5.out).mono ?_; rintro e w6 ⟨rfl, rfl⟩))
          have G := Lib.hid (HDO.out _ hb5.out)
          obtain ⟨e0, e1, e2, e3⟩ := hh5
          clear hh4 d0 d1 d2 d3
          go_wp2_with fail
          refine G.out.mono ?_
          rintro e w7 ⟨rfl, hn7⟩
          clear e0 e1 e2 e3 cnc
          obtain ⟨f0, f1, f2, f3⟩ := HD.out w7 hn7.out.bel
          have cn7 := hn7.out.cell
          have HM7 := hn7.out.misses
          rw [HMM.out] at HM7
          have HM7 := Lib.hid HM7
          go_wp2_with fail
          refine (HP.out _).mono ?_
          rintro e w8 ⟨rfl, rfl⟩
          go_wp2_with fail
          refine HM7.out.mono ?_
          rintro e w9 ⟨rfl, rfl⟩
          go_wp2
          go_roundw
          case rel => exact ⟨j + 1, by omega, by go_num, _, R2, hn7.out, by omega, by omega, HBD.out⟩
          case measure => simp [intOf]; omega
        · have HMM := Lib.hid hm
          clear hm
          generalize A.q = q4 at *
          go_wp2_with fail
          refine HM.out.mono ?_
          rintro e w3 ⟨rfl, rfl⟩
          go_wp2_with fail
          go_region_held3 (HeldG g (off + j * 4) A)
            (first | exact ⟨d0, d1, d2, d3⟩ | assumption)
            (first
              | (go_at_call 16; refine (HBLK.out _ ((Below.refl _ _).drew)).mono ?_; rintro e w4 ⟨v, rfl, hv, hb'⟩; have hb4 : Hid (Below wr.heap.size wr w4) := below_pd hb'.out; have hh4 := (show HeldG g (off + j * 4) A wr from ⟨d0, d1, d2, d3⟩).below hb4.out hgl; clear hb')
              | (go_at_call 19; refine (HAT.out _).mono ?_; rintro e w5 ⟨rfl, hb'⟩; have hb5 : Hid (Below wr.heap.size wr w5) := hb4.out.trans (hb'.out.mono hb4.out.size); have hv5 := Lib.hid (hv.out.below hb'.out); have hh5 := (show HeldG g (off + j * 4) A wr from ⟨d0, d1, d2, d3⟩).below hb5.out hgl; clear hb')
              | (go_at_call 24; refine (HHAS.out _ _ hv5.out).mono ?_; rintro e w6 ⟨rfl, rfl⟩))
          have G := Lib.hid (HDO.out _ hb5.out)
          obtain ⟨e0, e1, e2, e3⟩ := hh5
          clear hh4 d0 d1 d2 d3
          go_wp2_with fail
          refine G.out.mono ?_
          rintro e w7 ⟨rfl, hn7⟩
          clear e0 e1 e2 e3 cnc
          obtain ⟨f0, f1, f2, f3⟩ := HD.out w7 hn7.out.bel
          have cn7 := hn7.out.cell
          have HM7 := hn7.out.misses
          rw [HMM.out] at HM7
          have HM7 := Lib.hid HM7
          go_wp2_with fail
          refine (HP.out _).mono ?_
          rintro e w8 ⟨rfl, rfl⟩
          go_wp2_with fail
          refine HM7.out.mono ?_
          rintro e w9 ⟨rfl, rfl⟩
          go_wp2
          go_roundw
          case rel => exact ⟨j + 1, by omega, by go_num, _, R2, hn7.out, by omega, by omega, HBD.out⟩
          case measure => simp [intOf]; omega
      · have hkz : ¬ (j : Int) < (n : Int) := by omega
        go_wp2
        go_ret
        exact ⟨rfl, HB0.out⟩
end Go.Proofs.Yteeoglfgilabaaa

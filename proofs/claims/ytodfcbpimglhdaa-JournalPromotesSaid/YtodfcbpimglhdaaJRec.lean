/- What lies on a device with a journal when all is well, what Open finds there and does, in plain lists. -/
import Derived.Test.YtodfcbpimglhdaaJGood
namespace Go.Proofs.Ytodfcbpimglhdaa
open Go.RowKit
open Fr (bs fixL nmAt headB topL unp WrOk packL)

theorem chk_log {J K : JS} (h : J.log = K.log) (n : Nat) (f : List (Int × ByteArray)) : J.chk n f = K.chk n f := by
  have h1 : ∀ x, J.chk1 n x = K.chk1 n x := fun x => by unfold JS.chk1 JS.home; rw [h]
  have h2 : J.chkL n f = K.chkL n f := by
    induction f with
    | nil => rfl
    | cons x f ih => unfold JS.chkL; rw [h1, ih]
  unfold JS.chk; rw [h2]
/-- How many blocks frames have. -/
def fsz : List (List Wr) → Nat
  | [] => 0
  | f :: F => f.length + 1 + fsz F
theorem fsz_append (A B : List (List Wr)) : fsz (A ++ B) = fsz A + fsz B := by
  induction A with
  | nil => simp [fsz]
  | cons f A ih => simp only [List.cons_append, fsz, ih]; omega
/-- Frames lie in the log from an offset on. -/
def LaidF (g : Nat → ByteArray) (log p : Nat) : Nat → Nat → List (List Wr) → Prop
  | _, _, [] => True
  | o, s, f :: F => g (2 + (p + o) % log) = bs (topL s f) ∧ (∀ j (h : j < f.length), g (2 + (p + o + (j + 1)) % log) = f[j].2) ∧ LaidF g log p (o + (f.length + 1)) (s + 1) F
theorem LaidF.congr {g g' : Nat → ByteArray} {log p : Nat} : ∀ {F : List (List Wr)} {o s : Nat}, LaidF g log p o s F → (∀ i, o ≤ i → i < o + fsz F → g' (2 + (p + i) % log) = g (2 + (p + i) % log)) → LaidF g' log p o s F
  | [], _, _, _, _ => trivial
  | f :: F, o, s, h, hg => by
    obtain ⟨h1, h2, h3⟩ := h
    have e : fsz (f :: F) = f.length + 1 + fsz F := rfl
    refine ⟨by rw [hg o (Nat.le_refl _) (by omega)]; exact h1, fun j hj => ?_, LaidF.congr h3 (fun i hi hl => hg i (by omega) (by omega))⟩
    have := hg (o + (j + 1)) (by omega) (by omega)
    rw [← Nat.add_assoc] at this
    rw [this]; exact h2 j hj
theorem LaidF.snoc {g : Nat → ByteArray} {log p : Nat} (W : List Wr) : ∀ {F : List (List Wr)} {o s : Nat}, LaidF g log p o s F → g (2 + (p + (o + fsz F)) % log) = bs (topL (s + F.length) W) → (∀ j (h : j < W.length), g (2 + (p + (o + fsz F) + (j + 1)) % log) = W[j].2) → LaidF g log p o s (F ++ [W])
  | [], o, s, _, h1, h2 => ⟨h1, h2, trivial⟩
  | f :: F, o, s, h, h1, h2 => by
    obtain ⟨a, b, c⟩ := h
    have e : fsz (f :: F) = f.length + 1 + fsz F := rfl
    refine ⟨a, b, LaidF.snoc W c ?_ ?_⟩
    · rw [show o + (f.length + 1) + fsz F = o + fsz (f :: F) by rw [e]; omega, h1]
      congr 2; simp; omega
    · intro j hj
      rw [show o + (f.length + 1) + fsz F = o + fsz (f :: F) by rw [e]; omega]
      exact h2 j hj
theorem mod_ne (p log a b : Nat) (ha : a < log) (hb : b < log) (h : a ≠ b) : (p + a) % log ≠ (p + b) % log := by
  intro e
  have : a % log = b % log := by
    have h1 : (p + a) % log = (p % log + a % log) % log := Nat.add_mod p a log
    have h2 : (p + b) % log = (p % log + b % log) % log := Nat.add_mod p b log
    rw [h1, h2, Nat.mod_eq_of_lt ha, Nat.mod_eq_of_lt hb] at e
    have hp := Nat.mod_lt p (show 0 < log by omega)
    generalize p % log = q at *
    by_cases c1 : q + a < log
    · by_cases c2 : q + b < log
      · rw [Nat.mod_eq_of_lt c1, Nat.mod_eq_of_lt c2] at e; omega
      · rw [Nat.mod_eq_of_lt c1, Nat.mod_eq_sub_mod (by omega), Nat.mod_eq_of_lt (by omega)] at e; omega
    · by_cases c2 : q + b < log
      · rw [Nat.mod_eq_of_lt c2, Nat.mod_eq_sub_mod (by omega), Nat.mod_eq_of_lt (show q + a - log < log by omega)] at e; omega
      · rw [Nat.mod_eq_sub_mod (show q + a ≥ log by omega), Nat.mod_eq_of_lt (show q + a - log < log by omega), Nat.mod_eq_sub_mod (show q + b ≥ log by omega), Nat.mod_eq_of_lt (show q + b - log < log by omega)] at e; omega
  rw [Nat.mod_eq_of_lt ha, Nat.mod_eq_of_lt hb] at this
  exact h this

/-- The slot that the next checkpoint writes. -/
def JS.tgt (J : JS) : ByteArray := slotB (J.e + 1) J.next J.log (J.pos 0 - 2)
structure Good (N : Nat) (g : Nat → ByteArray) (n : Nat) (J : JS) (F : List (List Wr)) : Prop where
  ok : J.Ok n
  n4 : n ≤ 4096
  lg : J.log = 50
  big : N < 1000000
  bnd : J.e ≤ N ∧ J.next ≤ N
  next : J.next = J.s + F.length
  full : J.full = fsz F
  room : J.full + 1 ≤ J.log
  here : g J.side = slotB J.e J.s J.log J.p
  other : ∃ old m, m ≤ 256 ∧ Older old J.e ∧ g (1 - J.side) = layB J.tgt old m ∧ g (1 - J.side) ≠ J.tgt
  laid : LaidF g J.log J.p 0 J.s F
  fine : ∀ f ∈ F, J.chk n f = 0
  stop : headB (g (J.pos 0)).data.toList = false

section
variable {N n : Nat} {g g' : Nat → ByteArray} {J : JS} {F : List (List Wr)}
/-- What lies elsewhere does not matter. -/
theorem Good.change (h : Good N g n J F) (h0 : g' J.side = g J.side) (h1 : g' (1 - J.side) = g (1 - J.side)) (hl : ∀ o, o ≤ J.full → g' (2 + (J.p + o) % J.log) = g (2 + (J.p + o) % J.log)) : Good N g' n J F := by
  refine ⟨h.ok, h.n4, h.lg, h.big, h.bnd, h.next, h.full, h.room, h0.trans h.here, ?_, ?_, h.fine, ?_⟩
  · rw [h1]; exact h.other
  · exact h.laid.congr (fun i _ hi => hl i (by rw [h.full]; omega))
  · have := hl J.full (Nat.le_refl _)
    unfold JS.pos
    rw [Nat.add_zero, this]
    exact h.stop
theorem Good.more (h : Good N g n J F) {M : Nat} (hM : N ≤ M) (hb : M < 1000000) : Good M g n J F :=
  ⟨h.ok, h.n4, h.lg, hb, ⟨Nat.le_trans h.bnd.1 hM, Nat.le_trans h.bnd.2 hM⟩, h.next, h.full, h.room, h.here, h.other, h.laid, h.fine, h.stop⟩
theorem Good.other_lt (h : Good N g n J F) (x : Nat × Nat × Nat × Nat) (hx : rdSlot (g (1 - J.side)) n = some x) : x.1 < J.e := by
  obtain ⟨old, m, hm, ho, he, hne⟩ := h.other
  have hb := h.bnd; have hbig := h.big
  have hp := h.ok.pos_lt 0
  have h1 := h.ok.l1; have h4 := h.n4
  have hx' := hx
  rw [he] at hx
  unfold JS.tgt at hx
  rcases torn_slot (J.e + 1) J.next J.log (J.pos 0 - 2) n m old (by omega) (by omega) h1 h4 (by omega) x hx with e | e
  · have := rdSlot_bytes hx'
    rw [e] at this
    exact absurd this hne
  · obtain ⟨x0, x1, x2, x3, x4⟩ := rdSlot_ok hx
    exact ho.2 x.1 x.2.1 x.2.2.1 x.2.2.2 x3 x4 (by omega) (by omega) e
end

section
variable {N n : Nat} {J : JS} {D : DevS} {F : List (List Wr)}
/-- As Open takes a journal up. -/
def JS.fresh (J : JS) : JS := { J with next := J.s, full := 0 }
theorem find_good (h : Good N (gd D.disk) n J F) (hn : D.disk.length = n) (hp : D.pend = []) : D.find = some J.fresh := by
  have hlog := h.ok.l0; have h1 := h.ok.l1
  have hrd : ∀ i, i < D.disk.length → D.slotAt i = rdSlot (gd D.disk i) n := by
    intro i hi
    unfold DevS.slotAt
    rw [if_pos hi, rdB_none i (by rw [hp]; intro x hx; cases hx), hn]
  have hs := h.ok.si
  have hh : D.slotAt J.side = some (J.e, J.s, J.log, J.p) := by
    rw [hrd _ (by omega), h.here]
    exact rdSlot_slotB _ _ _ _ _ h.ok.e64 h.ok.s64 hlog h1 h.n4 h.ok.pl
  have ho : ∀ x, D.slotAt (1 - J.side) = some x → x.1 < J.e := by
    intro x hx
    rw [hrd _ (by omega)] at hx
    exact h.other_lt x hx
  have hj : slotJ (J.e, J.s, J.log, J.p) J.side = J.fresh := rfl
  unfold DevS.find
  rcases Nat.lt_or_ge 0 J.side with h0 | h0
  · have e : J.side = 1 := by omega
    rw [e] at hh ho hj
    rw [show 1 - 1 = 0 from rfl] at ho
    rw [hh]
    cases h00 : D.slotAt 0 with
    | none => simp only; rw [hj]
    | some x =>
      simp only
      rw [if_pos (ho x h00), hj]
  · have e : J.side = 0 := by omega
    rw [e] at hh ho hj
    rw [hh]
    cases h11 : D.slotAt 1 with
    | none => simp only; rw [hj]
    | some x =>
      have := ho x h11
      simp only
      rw [if_neg (by omega), hj]

theorem frame_laid {g : Nat → ByteArray} {f : List Wr} (hn : D.disk.length = n) (h4 : n ≤ 4096) (ok : J.Ok n) (hrd : ∀ b, 2 ≤ b → b < 2 + J.log → D.rdB b = g b) (hl : LaidF g J.log J.p J.full J.next (f :: F)) (hf : J.chk n f = 0) (hr : J.full + (f.length + 1) ≤ J.log) : J.frameOf D = some f := by
  obtain ⟨a, b, _⟩ := hl
  obtain ⟨l1, l2, hw⟩ := (J.chk_ok n f).1 hf
  have hw' : ∀ x ∈ f, Fr.WrOk x := fun x hx => JS.wrok_frame h4 (hw x hx)
  have hp0 := ok.pos_lt 0
  have e0 : D.rdB (J.pos 0) = bs (topL J.next f) := by
    rw [hrd _ hp0.1 hp0.2]
    show g (2 + (J.p + J.full + 0) % J.log) = _
    rw [Nat.add_zero]; exact a
  obtain ⟨t1, t2, t3, _⟩ := Fr.top_parts J.next f ok.n64 l1 l2 hw'
  have ed : (D.rdB (J.pos 0)).data.toList = topL J.next f := by rw [e0]; rfl
  have ef : J.frameAt D = packL J.next f := by
    unfold JS.frameAt packL
    rw [ed, t2, e0]
    congr 1
    apply List.ext_getElem
    · simp
    · intro i h1 h2
      have hi : i < f.length := by simpa using h1
      simp only [List.getElem_map, List.getElem_range]
      have hpi := ok.pos_lt (i + 1)
      rw [hrd _ hpi.1 hpi.2]
      exact b i hi
  have hu := Fr.unp_pack J.next f [] ok.n64 l1 l2 hw'
  rw [List.append_nil] at hu
  unfold JS.frameOf
  rw [ef, hu, ed, hn, if_pos ⟨t1, by rw [t2]; unfold JS.left; omega, rfl, rfl, hf⟩]

/-- A journal behind some frames more. -/
def JS.after (J : JS) (F : List (List Wr)) : JS := { J with next := J.next + F.length, full := J.full + fsz F }
theorem redo_laid {g : Nat → ByteArray} (h4 : n ≤ 4096) : ∀ (F : List (List Wr)) (J : JS) (D : DevS) (m : Nat), D.disk.length = n → D.dead = false → J.Ok n → (∀ b, b < 2 + J.log → gd D.disk b = g b) → (∀ x ∈ D.pend, J.home ≤ x.1) →
    LaidF g J.log J.p J.full J.next F → (∀ f ∈ F, J.chk n f = 0) → J.full + fsz F ≤ J.log → J.next + F.length < 18446744073709551616 → headB (g (2 + (J.p + (J.full + fsz F)) % J.log)).data.toList = false → F.length < m →
    ∃ J', J.redoN D m = ((D.wrs F.flatten).1, (D.wrs F.flatten).2, J') ∧ ((D.wrs F.flatten).1 = 0 → J' = J.after F) := by
  intro F
  induction F with
  | nil =>
    intro J D m hn hde ok hg hp hl hf hr hx hs hm
    obtain ⟨m, rfl⟩ : ∃ k, m = k + 1 := ⟨m - 1, by simp at hm; omega⟩
    have hp0 := ok.pos_lt 0
    have e0 : D.rdB (J.pos 0) = g (J.pos 0) := by
      rw [rdB_none _ (fun x hx => by have := hp x hx; unfold JS.home at this; omega)]
      exact hg _ hp0.2
    have hnone : J.frameOf D = none := by
      unfold JS.frameOf
      rw [if_neg]
      intro hc
      rw [e0] at hc
      have : J.pos 0 = 2 + (J.p + (J.full + fsz [])) % J.log := by unfold JS.pos fsz; rfl
      rw [← this] at hs
      rw [hs] at hc
      exact absurd hc.1 (by simp)
    exact ⟨J, redoN_none m hnone, fun _ => by unfold JS.after fsz; simp⟩
  | cons f F ih =>
    intro J D m hn hde ok hg hp hl hf hr hx hs hm
    obtain ⟨m, rfl⟩ : ∃ k, m = k + 1 := ⟨m - 1, by simp at hm; omega⟩
    have e : fsz (f :: F) = f.length + 1 + fsz F := rfl
    have hfr : J.frameOf D = some f := frame_laid (g := g) (F := F) hn h4 ok (fun b h2 hb => by
      rw [rdB_none _ (fun x hx => by have := hp x hx; unfold JS.home at this; omega)]; exact hg b hb) hl (hf f (List.mem_cons_self ..)) (by omega)
    rw [redoN_some m hfr, List.flatten_cons]
    by_cases h0 : (D.wrs f).1 = 0
    · rw [if_neg (by rw [h0]; simp), D.wrs_append f F.flatten h0]
      have hfit : Fit D.disk.length f := fun x hx => by
        obtain ⟨a, b, c⟩ := ((J.chk_ok n f).1 (hf f (List.mem_cons_self ..))).2.2 x hx
        unfold JS.home at a
        exact ⟨by omega, by rw [hn]; omega, c⟩
      obtain ⟨k, hk⟩ := wrs_cases f D hde hfit
      obtain ⟨J', h1, h2⟩ := ih (J.grow (f.length + 1)) (D.wrs f).2 m (by rw [hk.disk]; exact hn) (D.wrs_live f hde h0) (ok.grow _ (by omega)) (by rw [hk.disk]; exact hg) (by
          intro x hx
          rw [hk.pend] at hx
          rcases List.mem_append.1 hx with hx | hx
          · exact hp x hx
          · unfold natW at hx
            obtain ⟨y, hy, rfl⟩ := List.mem_map.1 hx
            obtain ⟨a, b, c⟩ := ((J.chk_ok n f).1 (hf f (List.mem_cons_self ..))).2.2 y (List.mem_of_mem_take hy)
            show J.home ≤ y.1.toNat
            omega) (by
          have : (J.grow (f.length + 1)).next = J.next + 1 := by
            show (J.next + 1) % 18446744073709551616 = _
            rw [List.length_cons] at hx
            exact Nat.mod_eq_of_lt (by omega)
          rw [this]
          exact hl.2.2) (fun f' h' => (chk_log (J := J.grow (f.length + 1)) (K := J) rfl n f').trans (hf f' (List.mem_cons_of_mem _ h'))) (by
          show J.full + (f.length + 1) + fsz F ≤ J.log; omega) (by
          have : (J.grow (f.length + 1)).next = J.next + 1 := by
            show (J.next + 1) % 18446744073709551616 = _
            rw [List.length_cons] at hx
            exact Nat.mod_eq_of_lt (by omega)
          rw [this]; rw [List.length_cons] at hx; omega) (by
          show headB (g (2 + (J.p + (J.full + (f.length + 1) + fsz F)) % J.log)).data.toList = false
          rw [show J.full + (f.length + 1) + fsz F = J.full + fsz (f :: F) by rw [e]; omega]
          exact hs) (by rw [List.length_cons] at hm; omega)
      refine ⟨J', h1, fun h => ?_⟩
      rw [h2 h]
      unfold JS.after JS.grow
      simp only
      rw [List.length_cons] at hx
      rw [Nat.mod_eq_of_lt (show J.next + 1 < _ by omega), e, List.length_cons]
      congr 1 <;> omega
    · rw [if_pos h0, D.wrs_err f F.flatten h0]
      exact ⟨_, rfl, fun h => absurd h h0⟩
end
end Go.Proofs.Ytodfcbpimglhdaa

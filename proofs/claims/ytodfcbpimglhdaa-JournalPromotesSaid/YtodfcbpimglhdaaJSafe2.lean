/- A checkpoint, at whatever turn the power goes: in plain lists. -/
import Derived.Test.YtodfcbpimglhdaaJSafe
namespace Go.Proofs.Ytodfcbpimglhdaa
open Go.RowKit
open Fr (bs fixL nmAt headB topL unp WrOk packL)

section
variable {N n : Nat} {J : JS} {D : DevS} {H : Nat → ByteArray} {F : List (List Wr)}

theorem ck_zero' {D : DevS} {i : Int} (h1 : D.ck i = 0) : D.dead = false ∧ 0 ≤ i ∧ i < D.disk.length := by
  unfold DevS.ck at h1
  split at h1
  · omega
  · rename_i hd
    split at h1
    · omega
    · exact ⟨by simpa using hd, by omega, by omega⟩
theorem slot_inj {e s log p e' s' log' p' : Nat} (he : e < 18446744073709551616) (hs : s < 18446744073709551616) (hl : log < 4294967296) (hp : p < 4294967296)
    (he' : e' < 18446744073709551616) (hs' : s' < 18446744073709551616) (hl' : log' < 4294967296) (hp' : p' < 4294967296) (h : slotB e s log p = slotB e' s' log' p') : e = e' := by
  have h2 : halfL e s log p ++ halfL e s log p = halfL e' s' log' p' ++ halfL e' s' log' p' := Fr.bs_eq h
  have := congrArg (List.take 128) h2
  rw [List.take_left' (halfL_len ..), List.take_left' (halfL_len ..)] at this
  exact (half_inj he hs hl hp he' hs' hl' hp' this).1
/-- Where the next head stands behind a checkpoint. -/
theorem next_pos (ok : J.Ok n) : J.next'.pos 0 = J.pos 0 := by
  have hl := ok.l0
  show 2 + ((2 + (J.p + J.full + 0) % J.log) - 2 + 0 + 0) % J.log = 2 + (J.p + J.full + 0) % J.log
  rw [Nat.add_sub_cancel_left, Nat.add_zero, Nat.add_zero, Nat.mod_mod]
/-- Behind the slot is written. -/
theorem good_next {g : Nat → ByteArray} (h : Good N (gd D.disk) n J F) (hN : N + 1 < 1000000) (h0 : g J.side = gd D.disk J.side) (h1 : g (1 - J.side) = J.tgt) (hz : g (J.pos 0) = noughts) :
    Good (N + 1) g n J.next' [] ∧ Older (g (1 - J.next'.side)) J.next'.e ∧ g (J.next'.pos 0) = noughts := by
  have hb := h.bnd; have hl := h.lg; have hs := h.ok.si; have h4 := h.n4; have hpl := h.ok.pl; have hp0 := h.ok.pos_lt 0
  have hs64 := h.ok.s64
  have e1 : J.next'.e = J.e + 1 := Nat.mod_eq_of_lt (by omega)
  have es : 1 - J.next'.side = J.side := by show 1 - (1 - J.side) = J.side; omega
  have ez := next_pos h.ok
  have hside : g (1 - J.next'.side) = slotB J.e J.s J.log J.p := by rw [es, h0]; exact h.here
  have hold : Older (g (1 - J.next'.side)) J.next'.e := by
    rw [hside, e1]; exact older_slot _ _ _ _ h.ok.e64 hs64 (by omega) (by omega)
  have ok' := h.ok.next'
  have hp' := ok'.pos_lt 0
  refine ⟨⟨ok', h4, hl, hN, ⟨by rw [e1]; omega, by show J.next ≤ _; omega⟩, rfl, rfl, by show 0 + 1 ≤ J.log; omega, ?_, ?_, trivial, fun f hf => (by cases hf), ?_⟩, hold, by rw [ez]; exact hz⟩
  · show g (1 - J.side) = slotB J.next'.e J.next J.log (J.pos 0 - 2)
    rw [e1, h1]; rfl
  · refine ⟨g (1 - J.next'.side), 0, Nat.zero_le _, hold, by rw [layB_none], ?_⟩
    rw [hside]
    intro e
    have hll : J.next'.log = J.log := rfl
    rw [hll] at hp'
    have := slot_inj h.ok.e64 hs64 (by omega) (by omega) (by rw [e1]; omega) (by show J.next < _; omega) (by show J.log < _; omega) (by omega) e
    rw [e1] at this
    omega
  · rw [ez, hz]; exact headB_noughts
/-- What lies elsewhere does not matter, and the place behind the frames is no head still. -/
theorem Good.swap {g g' : Nat → ByteArray} (h : Good N g n J F) (h0 : g' J.side = g J.side) (h1 : g' (1 - J.side) = g (1 - J.side)) (hl : ∀ o, o < J.full → g' (2 + (J.p + o) % J.log) = g (2 + (J.p + o) % J.log)) (hs : headB (g' (J.pos 0)).data.toList = false) : Good N g' n J F := by
  refine ⟨h.ok, h.n4, h.lg, h.big, h.bnd, h.next, h.full, h.room, h0.trans h.here, ?_, ?_, h.fine, hs⟩
  · rw [h1]; exact h.other
  · exact h.laid.congr (fun i _ hi => hl i (by rw [h.full]; omega))
theorem wr_ok (ok : D.Ok) (i : Int) (s : ByteArray) : (D.wr i s).2.Ok := by
  unfold DevS.wr
  split
  · exact ok
  · rename_i h1
    split
    · exact ok
    · rename_i h2
      split
      · exact ok.tk
      · have hk : D.ck i = 0 := by simpa using h1
        obtain ⟨_, h3, h4⟩ := ck_zero' hk
        have t := ok.tk
        refine ⟨t.some, t.few, t.whole, fun x hx => ?_, t.fuse0, t.fuse1⟩
        simp only [List.mem_append, List.mem_singleton] at hx
        show x.1 < D.tk.2.disk.length ∧ _
        rw [DevS.tk_disk]
        rcases hx with hx | rfl
        · exact ok.pends x hx
        · exact ⟨by simp only; omega, by simpa using h2⟩
theorem wrs_ok (W : List Wr) : ∀ D : DevS, D.Ok → (D.wrs W).2.Ok := by
  induction W with
  | nil => intro D ok; exact ok
  | cons x r ih =>
    intro D ok
    unfold DevS.wrs
    split
    · exact wr_ok ok _ _
    · exact ih _ (wr_ok ok _ _)
theorem fl_ok (ok : D.Ok) : D.fl.2.Ok := by
  unfold DevS.fl
  split
  · exact ok
  · split
    · exact ok.tk
    · have h := ok.settled (fun _ => 256) (fun _ _ => Nat.le_refl _)
      have t := ok.tk
      exact ⟨h.some, h.few, h.whole, fun x hx => (by cases hx), t.fuse0, t.fuse1⟩
theorem stl_ok {W : List Wr} (ok : D.Ok) (_hf : Fit D.disk.length W) : (D.stl W).2.Ok := by
  unfold DevS.stl
  split
  · exact wrs_ok W D ok
  · exact fl_ok (wrs_ok W D ok)
theorem list_take_one {α : Type} (x : α) (k : Nat) (h : k ≤ [x].length) : [x].take k = [] ∨ [x].take k = [x] := by
  have : k = 0 ∨ k = 1 := by simp at h; omega
  rcases this with rfl | rfl
  · exact .inl rfl
  · exact .inr rfl

theorem ckp_safe (h : Pre N n J D H F) (hN : N + 1 < 1000000) :
    ((J.ckp D).1 = 0 ∧ Sync (N + 1) n (J.ckp D).2.2 (J.ckp D).2.1 H [] ∧ (J.ckp D).2.2 = J.next' ∧ (J.ckp D).2.1.pend = []) ∨ ((J.ckp D).1 = 4 ∧ (J.ckp D).2.1.dead = true ∧ (J.ckp D).2.1.Ok ∧ (J.ckp D).2.1.disk.length = n ∧ Safe (N + 1) n (J.ckp D).2.1 (· = H)) := by
  have hg := h.good
  have hb := hg.bnd; have hl := hg.lg; have hs := hg.ok.si; have hp0 := hg.ok.pos_lt 0; have hl1 := hg.ok.l1
  have hpq : gd D.disk = gd D.disk := rfl
  have hmod : (J.e + 1) % 18446744073709551616 = J.e + 1 := Nat.mod_eq_of_lt (by omega)
  have hpend0 : ∀ x ∈ D.pend, x.1 ≠ J.pos 0 := fun x hx => by have := (h.pend x hx).1; omega
  have hfit1 : Fit D.disk.length [(((J.pos 0 : Nat) : Int), noughts)] := by
    intro x hx; simp at hx; subst hx; rw [h.len]; exact ⟨by simp, by simp only; omega, noughts_size⟩
  have hnat1 : natW [(((J.pos 0 : Nat) : Int), noughts)] = [(J.pos 0, noughts)] := by simp [natW]
  have hlow : ∀ x ∈ D.pend, ∀ b, b < 52 → x.1 ≠ b := fun x hx b hb => by have := (h.pend x hx).1; omega
  have hoff : ∀ o, 2 + (J.p + o) % J.log < 52 := fun o => by have := Nat.mod_lt (J.p + o) (show 0 < J.log by omega); omega
  have hpos0 : J.pos 0 = 2 + (J.p + J.full) % J.log := rfl
  have hr := hg.room
  unfold JS.ckp
  simp only
  rcases stl_cases D _ h.live hfit1 with ⟨a1, a2, a3, a4⟩ | ⟨a1, a2, a3, k, hk, a4⟩
  · rw [if_neg (by rw [a1]; simp)]
    have ok1 : (D.stl [(((J.pos 0 : Nat) : Int), noughts)]).2.Ok := stl_ok h.dok hfit1
    generalize hD1 : (D.stl [(((J.pos 0 : Nat) : Int), noughts)]).2 = D1 at *
    rw [hnat1] at a3
    have hpp : ∀ x ∈ D.pend ++ [(J.pos 0, noughts)], x.1 < D.disk.length ∧ x.2.size = 256 := by
      intro x hx
      rcases List.mem_append.1 hx with hx | hx
      · exact h.dok.pends x hx
      · simp at hx; subst hx; exact ⟨by rw [h.len]; simp only; omega, noughts_size⟩
    have len1 : D1.disk.length = n := by rw [a3, laidTo_length]; exact h.len
    have g1 : ∀ b, b < n → gd D1.disk b = vN (D.pend ++ [(J.pos 0, noughts)]) (gd D.disk) b := fun b hb => by
      rw [a3]; exact laid256 b (by rw [h.len]; exact hb) h.dok.whole hpp
    have g1z : gd D1.disk (J.pos 0) = noughts := by rw [g1 _ (by omega)]; exact vN_at (P := D.pend) (Q := []) (x := (J.pos 0, noughts)) (fun y hy => by cases hy)
    have g1l : ∀ b, b < 52 → b ≠ J.pos 0 → gd D1.disk b = gd D.disk b := fun b hb hne => by
      rw [g1 b (by omega)]
      exact vN_none (fun x hx => by
        rcases List.mem_append.1 hx with hx | hx
        · exact hlow x hx b hb
        · simp at hx; subst hx; exact fun e => hne e.symm)
    have g1h : ∀ b, 52 ≤ b → b < n → gd D1.disk b = H b := fun b hb hbn => by
      rw [g1 b hbn, vN_append, vN_none (P := [(J.pos 0, noughts)]) (fun x hx => by simp at hx; subst hx; simp only; omega), ← rdB_vN]
      exact h.read b hb hbn
    have good1 : Good N (gd D1.disk) n J F := by
      have := hg.swap (g' := gd D1.disk) (g1l _ (by omega) (by omega)) (g1l _ (by omega) (by omega)) (fun o ho => g1l _ (hoff o) (by rw [hpos0]; have := mod_ne J.p J.log o J.full (by omega) (by omega) (by omega); omega)) (by rw [g1z]; exact headB_noughts)
      exact this
    have view1 : ∀ b, 52 ≤ b → b < n → vN (natW F.flatten) (gd D1.disk) b = H b := fun b hb hbn => by
      by_cases hx : ∃ x ∈ natW F.flatten, x.1 = b
      · rw [vN_hit (g' := gd D.disk) (.inl hx)]; exact h.view b hb hbn
      · rw [vN_none (fun x hx' e => hx ⟨x, hx', e⟩)]; exact g1h b hb hbn
    have htg : slotB ((J.e + 1) % 18446744073709551616) J.next J.log (J.pos 0 - 2) = J.tgt := by rw [hmod]; rfl
    rw [htg]
    have htz : J.tgt.size = 256 := slotB_size _ _ _ _
    have hfit2 : Fit D1.disk.length [(((1 - J.side : Nat) : Int), J.tgt)] := by
      intro x hx; simp only [List.mem_singleton] at hx; subst hx; rw [len1]; exact ⟨by simp only; omega, by simp only; omega, htz⟩
    have hnat2 : natW [(((1 - J.side : Nat) : Int), J.tgt)] = [(1 - J.side, J.tgt)] := by simp [natW]
    rcases stl_cases D1 _ a2 hfit2 with ⟨b1, b2, b3, b4⟩ | ⟨b1, b2, b3, k, hk, b4⟩
    · left
      rw [if_neg (by rw [b1]; simp)]
      have ok2 : (D1.stl [(((1 - J.side : Nat) : Int), J.tgt)]).2.Ok := stl_ok ok1 hfit2
      generalize hD2 : (D1.stl [(((1 - J.side : Nat) : Int), J.tgt)]).2 = D2 at *
      rw [hnat2, a4, List.nil_append] at b3
      have hpp2 : ∀ x ∈ [(1 - J.side, J.tgt)], x.1 < D1.disk.length ∧ x.2.size = 256 := by
        intro x hx; simp at hx; subst hx; exact ⟨by rw [len1]; simp only; omega, htz⟩
      have len2 : D2.disk.length = n := by rw [b3, laidTo_length]; exact len1
      have g2 : ∀ b, b < n → gd D2.disk b = vN [(1 - J.side, J.tgt)] (gd D1.disk) b := fun b hb => by
        rw [b3]; exact laid256 b (by rw [len1]; exact hb) ok1.whole hpp2
      have g2s : gd D2.disk (1 - J.side) = J.tgt := by rw [g2 _ (by omega)]; exact vN_at (P := []) (Q := []) (x := (1 - J.side, J.tgt)) (fun y hy => by cases hy)
      have g2o : ∀ b, b < n → b ≠ 1 - J.side → gd D2.disk b = gd D1.disk b := fun b hb hne => by
        rw [g2 b hb]; exact vN_none (fun x hx => by simp at hx; subst hx; exact fun e => hne e.symm)
      obtain ⟨q1, q2, q3⟩ := good_next (g := gd D2.disk) good1 hN (g2o _ (by omega) (by omega)) g2s (by rw [g2o _ (by omega) (by omega)]; exact g1z)
      refine ⟨rfl, ⟨⟨ok2, b2, len2, q1, (by rw [b4]; intro x hx; cases hx), fun b hb hbn => ?_, fun b hb hbn => ?_⟩, q3, q2⟩, rfl, b4⟩
      · rw [vN_none (fun x hx => by simp [natW] at hx), g2o b hbn (by omega)]; exact g1h b hb hbn
      · rw [rdB_none b (by rw [b4]; intro x hx; cases hx), g2o b hbn (by omega)]; exact g1h b hb hbn
    · right
      rw [if_pos (by rw [b1]; simp)]
      have ok2 : (D1.stl [(((1 - J.side : Nat) : Int), J.tgt)]).2.Ok := stl_ok ok1 hfit2
      refine ⟨b1, b2, ok2, by rw [b3]; exact len1, fun f hf => ?_⟩
      have hsz := (ok2.settled f (fun k _ => hf k)).whole
      simp only at hsz
      rw [b3, b4, a4, List.nil_append] at hsz ⊢
      rcases list_take_one _ k hk with e | e
      · rw [e] at hsz ⊢
        exact ⟨H, J, F, rfl, ⟨len1, ok1.whole, good1.more (by omega) hN, view1⟩⟩
      · rw [e, hnat2] at hsz ⊢
        have g2s := laid_one (f := f) (P := []) (disk := D1.disk) (1 - J.side) J.tgt (fun y hy => by cases hy) (by omega)
        have g2o : ∀ b, b ≠ 1 - J.side → gd (laidTo f ([] ++ [(1 - J.side, J.tgt)]) D1.disk ([] ++ [(1 - J.side, J.tgt)]).length) b = gd D1.disk b := fun b hne => laid_other b _ (fun x hx => by simp at hx; subst hx; exact fun e => hne e.symm)
        rw [List.nil_append] at g2s g2o
        have len2 : (laidTo f [(1 - J.side, J.tgt)] D1.disk [(1 - J.side, J.tgt)].length).length = n := by rw [laidTo_length]; exact len1
        generalize laidTo f [(1 - J.side, J.tgt)] D1.disk [(1 - J.side, J.tgt)].length = d2 at *
        by_cases hT : gd d2 (1 - J.side) = J.tgt
        · obtain ⟨q1, q2, q3⟩ := good_next (g := gd d2) good1 hN (g2o _ (by omega)) hT (by rw [g2o _ (by omega)]; exact g1z)
          refine ⟨H, J.next', [], rfl, ⟨len2, hsz, q1, fun b hb hbn => ?_⟩⟩
          rw [vN_none (fun x hx => by simp [natW] at hx), g2o b (by omega)]; exact g1h b hb hbn
        · obtain ⟨old, m, hm, ho, he, _⟩ := good1.other
          have hc : Good N (gd d2) n J F := by
            refine ⟨hg.ok, hg.n4, hg.lg, hg.big, hg.bnd, hg.next, hg.full, hg.room, by rw [g2o _ (by omega)]; exact good1.here, ?_, ?_, hg.fine, ?_⟩
            · refine ⟨old, max m (f 0), by have := hf 0; omega, ho, ?_, hT⟩
              rw [g2s, he, layB_twice _ _ _ _ htz hm]; rfl
            · exact good1.laid.congr (fun i _ _ => g2o _ (by omega))
            · rw [g2o _ (by omega)]; exact good1.stop
          refine ⟨H, J, F, rfl, ⟨len2, hsz, hc.more (by omega) hN, fun b hb hbn => ?_⟩⟩
          rw [vN_hit (g' := gd D1.disk) (.inr (g2o b (by omega)))]; exact view1 b hb hbn
  · right
    rw [if_pos (by rw [a1]; simp)]
    have ok1 : (D.stl [(((J.pos 0 : Nat) : Int), noughts)]).2.Ok := stl_ok h.dok hfit1
    refine ⟨a1, a2, ok1, by rw [a3]; exact h.len, fun f hf => ?_⟩
    have hsz := (ok1.settled f (fun k _ => hf k)).whole
    simp only at hsz
    rw [a3, a4] at hsz ⊢
    rcases list_take_one _ k hk with e | e
    · rw [e] at hsz ⊢
      have en : natW ([] : List Wr) = [] := rfl
      rw [en, List.append_nil] at hsz ⊢
      obtain ⟨H', J', F', hH, hR⟩ := h.safe f hf
      exact ⟨H', J', F', hH, hR.more (by omega) hN⟩
    · rw [e, hnat1] at hsz ⊢
      have g2s := laid_one (f := f) (P := D.pend) (disk := D.disk) (J.pos 0) noughts hpend0 (by rw [h.len]; omega)
      have g2l : ∀ b, b < 52 → b ≠ J.pos 0 → gd (laidTo f (D.pend ++ [(J.pos 0, noughts)]) D.disk (D.pend ++ [(J.pos 0, noughts)]).length) b = gd D.disk b := fun b hb hne => laid_other b _ (fun x hx => by
        rcases List.mem_append.1 hx with hx | hx
        · exact hlow x hx b hb
        · simp at hx; subst hx; exact fun e => hne e.symm)
      have g2h : ∀ b, 52 ≤ b → (¬ ∃ x ∈ natW F.flatten, x.1 = b) → gd (laidTo f (D.pend ++ [(J.pos 0, noughts)]) D.disk (D.pend ++ [(J.pos 0, noughts)]).length) b = gd D.disk b := fun b hb hno => laid_other b _ (fun x hx e => by
        rcases List.mem_append.1 hx with hx | hx
        · obtain ⟨_, y, hy, hye⟩ := h.pend x hx
          exact hno ⟨y, hy, hye.trans e⟩
        · simp at hx; subst hx; simp only at e; omega)
      have len2 : (laidTo f (D.pend ++ [(J.pos 0, noughts)]) D.disk (D.pend ++ [(J.pos 0, noughts)]).length).length = n := by rw [laidTo_length]; exact h.len
      generalize laidTo f (D.pend ++ [(J.pos 0, noughts)]) D.disk (D.pend ++ [(J.pos 0, noughts)]).length = d2 at *
      have hc : Good N (gd d2) n J F := hg.swap (g2l _ (by omega) (by omega)) (g2l _ (by omega) (by omega)) (fun o ho => g2l _ (hoff o) (by rw [hpos0]; have := mod_ne J.p J.log o J.full (by omega) (by omega) (by omega); omega)) (by rw [g2s]; exact torn_noughts _ _ hg.stop)
      refine ⟨H, J, F, rfl, ⟨len2, hsz, hc.more (by omega) hN, fun b hb hbn => ?_⟩⟩
      by_cases hx : ∃ x ∈ natW F.flatten, x.1 = b
      · rw [vN_hit (g' := gd D.disk) (.inl hx)]; exact h.view b hb hbn
      · rw [vN_hit (g' := gd D.disk) (.inr (g2h b hb hx))]; exact h.view b hb hbn
end
end Go.Proofs.Ytodfcbpimglhdaa

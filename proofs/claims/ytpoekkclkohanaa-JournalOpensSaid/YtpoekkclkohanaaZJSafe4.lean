/- Commit, Open and Format, whole, in plain lists. -/
import Derived.Test.YtpoekkclkohanaaZJOpen

namespace Go.Proofs.Ytpoekkclkohanaa
open Go.RowKit
open Fr (bs fixL nmAt headB topL unp WrOk packL)

section
variable {N M n : Nat} {J : JS} {D : DevS} {H : Nat → ByteArray} {F : List (List Wr)} {L : List Wr}

theorem Sync.more (h : Sync N n J D H F) (hM : N ≤ M) (hb : M < 1000000) : Sync M n J D H F :=
  ⟨⟨h.pre.dok, h.pre.live, h.pre.len, h.pre.good.more hM hb, h.pre.pend, h.pre.view, h.pre.read⟩, h.zero, h.older⟩
theorem Safe.more {P : (Nat → ByteArray) → Prop} (h : Safe N n D P) (hM : N ≤ M) (hb : M < 1000000) : Safe M n D P := fun f hf => by
  obtain ⟨H, J, F, h1, h2⟩ := h f hf; exact ⟨H, J, F, h1, h2.more hM hb⟩
/-- The power is gone, and whatever a crash keeps Open finds home as P says. -/
structure Gone (N n : Nat) (D : DevS) (P : (Nat → ByteArray) → Prop) : Prop where
  dead : D.dead = true
  dok : D.Ok
  len : D.disk.length = n
  safe : Safe N n D P

theorem commit_safe (h : Sync N n J D H F) (hN : N + 2 < 1000000) (hc : J.chk n L = 0) :
    ((J.commit D L).1 = 0 ∧ ∃ F', Sync (N + 2) n (J.commit D L).2.2 (J.commit D L).2.1 (put H L) (F' ++ [L])) ∨ ((J.commit D L).1 = 4 ∧ Gone (N + 2) n (J.commit D L).2.1 (fun X => X = H ∨ X = put H L)) := by
  have hlen := h.pre.len
  have hlg := h.pre.good.lg
  have hfu := h.pre.good.ok.fu
  obtain ⟨l1, l2, _⟩ := (J.chk_ok n L).1 hc
  have hleft : J.left = J.log - J.full := rfl
  unfold JS.commit
  rw [hlen, if_neg (by simpa using hc)]
  simp only
  by_cases hlt : J.left < L.length + 2
  · rw [if_pos hlt]
    rcases ckp_safe h.pre (by omega) with ⟨a1, a2, a3, a4⟩ | ⟨a1, a2, a3, a4, a5⟩
    · rw [if_neg (by rw [a1]; simp)]
      have hn0 : (J.ckp D).2.2.next = J.next := by rw [a3]; rfl
      have hf0 : (J.ckp D).2.2.full = 0 := by rw [a3]; rfl
      have hl0 : (J.ckp D).2.2.log = J.log := by rw [a3]; rfl
      have hc0 : (J.ckp D).2.2.chk n L = 0 := (chk_log hl0 n L).trans hc
      rcases add_safe (L := L) a2 (by omega) hc0 (by rw [hf0, hl0]; omega) _ rfl with ⟨b1, b2, b3, b4, b5⟩ | ⟨b1, b2, b3⟩
      · rw [hn0] at b1 b2 b3 b4 b5
        rw [if_pos (by rw [b1]; simp)]
        exact .inr ⟨b1, b2, b3, b4, b5.more (by omega) hN⟩
      · rw [hn0] at b1 b2 b3
        rw [if_neg (by rw [b1]; simp)]
        rw [b2]
        rcases b3 with ⟨c1, c2⟩ | ⟨c1, c2, c3, c4, c5⟩
        · exact .inl ⟨c1, _, c2.more (by omega) hN⟩
        · exact .inr ⟨c1, c2, c3, c4, c5.more (by omega) hN⟩
    · rw [if_pos (by rw [a1]; simp)]
      exact .inr ⟨a1, a2, a3, a4, (a5.mono (fun X hX => .inl hX)).more (by omega) hN⟩
  · rw [if_neg hlt, if_neg (by simp)]
    rcases add_safe (L := L) h (by omega) hc (by omega) _ rfl with ⟨b1, b2, b3, b4, b5⟩ | ⟨b1, b2, b3⟩
    · rw [if_pos (by rw [b1]; simp)]
      exact .inr ⟨b1, b2, b3, b4, b5.more (by omega) hN⟩
    · rw [if_neg (by rw [b1]; simp)]
      rw [b2]
      rcases b3 with ⟨c1, c2⟩ | ⟨c1, c2, c3, c4, c5⟩
      · exact .inl ⟨c1, _, c2.more (by omega) hN⟩
      · exact .inr ⟨c1, c2, c3, c4, c5.more (by omega) hN⟩

theorem open_safe (h : Rec N n D.disk H J F) (hN : N + 1 < 1000000) (ok : D.Ok) (hde : D.dead = false) (hp : D.pend = []) :
    (D.opn.1 = 0 ∧ D.opn.2.2 = some J.next' ∧ Sync (N + 1) n J.next' D.opn.2.1 H [] ∧ D.opn.2.1.pend = []) ∨ (D.opn.1 = 4 ∧ D.opn.2.2 = none ∧ Gone (N + 1) n D.opn.2.1 (· = H)) := by
  have hg := h.good
  have hb := hg.bnd; have hr := hg.room; have hfull := hg.full; have hnx := hg.next; have hlg := hg.lg
  have hhome : J.home = 52 := by unfold JS.home; omega
  have hfit : Fit D.disk.length F.flatten := by
    intro x hx
    obtain ⟨f, hf, hxf⟩ := List.mem_flatten.1 hx
    obtain ⟨a, b, c⟩ := ((J.chk_ok n f).1 (hg.fine f hf)).2.2 x hxf
    rw [hhome] at a
    rw [h.len]
    exact ⟨by omega, by omega, c⟩
  have hfl52 : ∀ x ∈ natW F.flatten, 52 ≤ x.1 := by
    intro x hx
    obtain ⟨y, hy, rfl⟩ := List.mem_map.1 hx
    obtain ⟨f, hf, hxf⟩ := List.mem_flatten.1 hy
    obtain ⟨a, b, c⟩ := ((J.chk_ok n f).1 (hg.fine f hf)).2.2 y hxf
    rw [hhome] at a
    simp only; omega
  have hFl : F.length ≤ fsz F := by
    clear hfit hfl52 hfull hnx hr hg h
    induction F with
    | nil => exact Nat.le_refl _
    | cons f F ih => simp only [List.length_cons, fsz]; omega
  obtain ⟨J', h1, h2⟩ := redo_laid (g := gd D.disk) hg.n4 F J.fresh D (J.log + 1) h.len hde ⟨hg.ok.l0, hg.ok.l1, hg.ok.pl, hg.ok.si, Nat.zero_le _, hg.ok.e64, hg.ok.s64, hg.ok.s64⟩ (fun _ _ => rfl) (by rw [hp]; intro x hx; cases hx) hg.laid
    (fun f hf => (chk_log (J := J.fresh) (K := J) rfl n f).trans (hg.fine f hf)) (by show 0 + fsz F ≤ J.log; omega) (by show J.s + F.length < _; omega) (by
      show headB (gd D.disk (2 + (J.p + (0 + fsz F)) % J.log)).data.toList = false
      rw [Nat.zero_add, ← hfull]
      exact hg.stop) (by omega)
  have hredo : J.fresh.redo D = ((D.wrs F.flatten).1, (D.wrs F.flatten).2, J') := h1
  have hfind := find_good hg h.len hp
  obtain ⟨k, hk⟩ := wrs_cases F.flatten D hde hfit
  have okw := wrs_ok F.flatten D ok
  have hpn : (D.wrs F.flatten).2.pend = natW (F.flatten.take k) := by rw [hk.pend, hp, List.nil_append]
  have hsub : ∀ x ∈ (D.wrs F.flatten).2.pend, 52 ≤ x.1 ∧ ∃ y ∈ natW F.flatten, y.1 = x.1 := by
    intro x hx
    rw [hpn] at hx
    have hx' : x ∈ natW F.flatten := by
      obtain ⟨y, hy, rfl⟩ := List.mem_map.1 hx
      exact List.mem_map.2 ⟨y, List.mem_of_mem_take hy, rfl⟩
    exact ⟨hfl52 x hx', x, hx', rfl⟩
  have hopn : D.opn = if (D.wrs F.flatten).1 ≠ 0 then ((D.wrs F.flatten).1, (D.wrs F.flatten).2, none) else if (J'.ckp (D.wrs F.flatten).2).1 ≠ 0 then ((J'.ckp (D.wrs F.flatten).2).1, (J'.ckp (D.wrs F.flatten).2).2.1, none) else (0, (J'.ckp (D.wrs F.flatten).2).2.1, some (J'.ckp (D.wrs F.flatten).2).2.2) := by
    unfold DevS.opn
    rw [hde, hfind]
    simp only [hredo]
    rfl
  rw [hopn]
  rcases hk.how with ⟨c1, c2, c3⟩ | ⟨c1, c2⟩
  · rw [if_neg (by rw [c1]; simp)]
    have hJ' : J' = J := by
      rw [h2 c1]
      show ({ J with next := J.s + F.length, full := 0 + fsz F } : JS) = J
      rw [← hnx, Nat.zero_add, ← hfull]
    rw [hJ']
    have pre : Pre N n J (D.wrs F.flatten).2 H F := by
      refine ⟨okw, c3, by rw [hk.disk]; exact h.len, by rw [hk.disk]; exact hg, hsub, by rw [hk.disk]; exact h.view, fun b hb hbn => ?_⟩
      rw [rdB_vN, hpn, c2, List.take_length, hk.disk]
      exact h.view b hb hbn
    rcases ckp_safe pre hN with ⟨a1, a2, a3, a4⟩ | ⟨a1, a2, a3, a4, a5⟩
    · left
      rw [if_neg (by rw [a1]; simp)]
      exact ⟨rfl, by rw [a3], by rw [a3] at a2; exact a2, a4⟩
    · right
      rw [if_pos (by rw [a1]; simp)]
      exact ⟨a1, rfl, a2, a3, a4, a5⟩
  · right
    rw [if_pos (by rw [c1]; simp)]
    exact ⟨c1, rfl, c2, okw, by rw [hk.disk]; exact h.len, fun f hf => ⟨H, J, F, rfl, Rec.more (harm_rec hf okw (by rw [hk.disk]; exact h.len) (by rw [hk.disk]; exact hg) (by rw [hk.disk]; exact h.view) (fun x hx => .inl (hsub x hx))) (by omega) hN⟩⟩

/-! ### Without a fuse the power stays -/
def NF (D D' : DevS) : Prop := D'.fused = false ∧ D'.dead = D.dead
theorem nf_tk (h : D.fused = false) : D.tk = (true, D) := by unfold DevS.tk; rw [if_pos h]
theorem nf_wr (h : D.fused = false) (i : Int) (s : ByteArray) : NF D (D.wr i s).2 := by
  unfold DevS.wr
  rw [nf_tk h]
  split
  · exact ⟨h, rfl⟩
  · split
    · exact ⟨h, rfl⟩
    · split
      · exact ⟨h, rfl⟩
      · exact ⟨h, rfl⟩
theorem nf_wrs (W : List Wr) : ∀ D : DevS, D.fused = false → NF D (D.wrs W).2 := by
  induction W with
  | nil => intro D h; exact ⟨h, rfl⟩
  | cons x r ih =>
    intro D h
    have h1 := nf_wr h x.1 x.2
    unfold DevS.wrs
    split
    · exact h1
    · have h2 := ih _ h1.1
      exact ⟨h2.1, h2.2.trans h1.2⟩
theorem nf_fl (h : D.fused = false) : NF D D.fl.2 := by
  unfold DevS.fl
  rw [nf_tk h]
  split
  · exact ⟨h, rfl⟩
  · split
    · exact ⟨h, rfl⟩
    · exact ⟨h, rfl⟩
theorem nf_stl (W : List Wr) (h : D.fused = false) : NF D (D.stl W).2 := by
  have h1 := nf_wrs W D h
  unfold DevS.stl
  split
  · exact h1
  · have h2 := nf_fl h1.1
    exact ⟨h2.1, h2.2.trans h1.2⟩
theorem nf_ckp (J : JS) (h : D.fused = false) : NF D (J.ckp D).2.1 := by
  have h1 := nf_stl [(((J.pos 0 : Nat) : Int), noughts)] h
  unfold JS.ckp
  simp only
  split
  · exact h1
  · have h2 := nf_stl [(((1 - J.side : Nat) : Int), slotB ((J.e + 1) % 18446744073709551616) J.next J.log (J.pos 0 - 2))] h1.1
    split
    · exact ⟨h2.1, h2.2.trans h1.2⟩
    · exact ⟨h2.1, h2.2.trans h1.2⟩
theorem nf_redo (m : Nat) : ∀ (J : JS) (D : DevS), D.fused = false → NF D (J.redoN D m).2.1 := by
  induction m with
  | zero => intro J D h; exact ⟨h, rfl⟩
  | succ m ih =>
    intro J D h
    cases hfr : J.frameOf D with
    | none => rw [redoN_none m hfr]; exact ⟨h, rfl⟩
    | some ws =>
      rw [redoN_some m hfr]
      have h1 := nf_wrs ws D h
      split
      · exact h1
      · have h2 := ih (J.grow (ws.length + 1)) _ h1.1
        exact ⟨h2.1, h2.2.trans h1.2⟩
theorem nf_opn (h : D.fused = false) : NF D D.opn.2.1 := by
  unfold DevS.opn
  split
  · exact ⟨h, rfl⟩
  · split
    · exact ⟨h, rfl⟩
    · rename_i J _
      have h1 := nf_redo (J.log + 1) J D h
      simp only
      split
      · exact h1
      · have h2 := nf_ckp (J.redo D).2.2 h1.1
        split
        · exact ⟨h2.1, h2.2.trans h1.2⟩
        · exact ⟨h2.1, h2.2.trans h1.2⟩
/-- Open without a fuse. -/
theorem open_sure (h : Rec N n D.disk H J F) (hN : N + 1 < 1000000) (ok : D.Ok) (hde : D.dead = false) (hp : D.pend = []) (hf : D.fused = false) :
    D.opn.1 = 0 ∧ D.opn.2.2 = some J.next' ∧ Sync (N + 1) n J.next' D.opn.2.1 H [] ∧ D.opn.2.1.pend = [] := by
  rcases open_safe h hN ok hde hp with h1 | ⟨_, _, h1⟩
  · exact h1
  · have := (nf_opn hf).2
    rw [h1.dead, hde] at this
    cases this

/-- A journal that was just formatted. -/
def J0 : JS := ⟨1, 1, 50, 0, 0, 1, 0⟩
theorem fmt_rec (n : Nat) (h1 : 53 ≤ n) (h2 : n ≤ 4096) : ((DevS.made n).fmt 50).1 = 0 ∧ ((DevS.made n).fmt 50).2.pend = [] ∧ ((DevS.made n).fmt 50).2.dead = false ∧ ((DevS.made n).fmt 50).2.fused = false ∧ ((DevS.made n).fmt 50).2.Ok ∧
    Rec 1 n ((DevS.made n).fmt 50).2.disk (fun _ => noughts) J0 [] := by
  have hok := DevS.made_ok n (by omega) h2
  have hln : (DevS.made n).disk.length = n := by simp [DevS.made]
  have hfm : (DevS.made n).fmt 50 = (DevS.made n).stl (fmtL 50) := by
    unfold DevS.fmt; rw [hln, if_neg (by omega)]; rfl
  have hmem : ∀ x ∈ natW (fmtL 50), x = (0, slotB 1 1 50 0) ∨ (x.2 = noughts ∧ 1 ≤ x.1 ∧ x.1 < 52) := by
    intro x hx
    unfold natW fmtL at hx
    rw [List.map_append] at hx
    rcases List.mem_append.1 hx with hx | hx
    · obtain ⟨y, hy, rfl⟩ := List.mem_map.1 hx
      obtain ⟨i, hi, rfl⟩ := List.mem_map.1 hy
      have := List.mem_range.1 hi
      exact .inr ⟨rfl, by simp only; omega, by simp only; omega⟩
    · simp at hx; subst hx; exact .inl rfl
  have hfit : Fit (DevS.made n).disk.length (fmtL 50) := by
    intro x hx
    rw [hln]
    unfold fmtL at hx
    rcases List.mem_append.1 hx with hx | hx
    · obtain ⟨i, hi, rfl⟩ := List.mem_map.1 hx
      have := List.mem_range.1 hi
      exact ⟨by simp only; omega, by simp only; omega, noughts_size⟩
    · simp only [List.mem_singleton] at hx; subst hx; exact ⟨by simp, by simp only; omega, slotB_size _ _ _ _⟩
  rw [hfm]
  have hnf := nf_stl (D := DevS.made n) (fmtL 50) rfl
  have ok1 := stl_ok hok hfit
  rcases stl_cases (DevS.made n) (fmtL 50) rfl hfit with ⟨a1, a2, a3, a4⟩ | ⟨a1, a2, _⟩
  · have hp0 : (DevS.made n).pend = [] := rfl
    rw [hp0, List.nil_append] at a3
    have hpp : ∀ x ∈ natW (fmtL 50), x.1 < (DevS.made n).disk.length ∧ x.2.size = 256 := by
      intro x hx
      rw [hln]
      rcases hmem x hx with rfl | ⟨h1, h2, h3⟩
      · exact ⟨by simp only; omega, slotB_size _ _ _ _⟩
      · exact ⟨by omega, by rw [h1]; exact noughts_size⟩
    have g1 : ∀ b, b < n → gd ((DevS.made n).stl (fmtL 50)).2.disk b = vN (natW (fmtL 50)) (gd (DevS.made n).disk) b := fun b hb => by
      rw [a3]; exact laid256 b (by rw [hln]; exact hb) hok.whole hpp
    have gz : ∀ b, b < n → gd (DevS.made n).disk b = noughts := fun b hb => by
      unfold gd DevS.made; simp [List.getD, hb]
    have gs : gd ((DevS.made n).stl (fmtL 50)).2.disk 0 = slotB 1 1 50 0 := by
      rw [g1 0 (by omega)]
      unfold fmtL
      rw [natW_append]
      exact vN_at (x := (0, slotB 1 1 50 0)) (Q := []) (fun y hy => by cases hy)
    have go : ∀ b, 1 ≤ b → b < n → gd ((DevS.made n).stl (fmtL 50)).2.disk b = noughts := fun b h1 hb => by
      rw [g1 b hb]
      unfold vN
      cases hf : (natW (fmtL 50)).reverse.find? (fun x => x.1 == b) with
      | none => exact gz b hb
      | some x =>
        have hx := List.mem_reverse.1 (List.mem_of_find?_eq_some hf)
        have he : x.1 = b := by simpa using List.find?_some hf
        rcases hmem x hx with rfl | ⟨h2, _⟩
        · simp only at he; omega
        · exact h2
    refine ⟨a1, a4, a2, hnf.1, ok1, ⟨by rw [a3, laidTo_length, hln], ok1.whole, ?_, fun b hb hbn => ?_⟩⟩
    · refine ⟨⟨by decide, by show 50 + 3 ≤ n; omega, by decide, by decide, by decide, by decide, by decide, by decide⟩, h2, rfl, by omega, ⟨by decide, by decide⟩, rfl, rfl, by decide, gs, ?_, trivial, fun f hf => (by cases hf), ?_⟩
      · have e1 : gd ((DevS.made n).stl (fmtL 50)).2.disk (1 - J0.side) = noughts := go 1 (by omega) (by omega)
        refine ⟨noughts, 0, by omega, older_noughts _, by rw [layB_none]; exact e1, fun e => ?_⟩
        rw [e1] at e
        have := congrArg (fun b : ByteArray => b.data.toList.getD 0 0) e
        simp only [noughts_at] at this
        have h67 : (JS.tgt J0).data.toList.getD 0 0 = 67 := rfl
        rw [h67] at this
        cases this
      · have e2 : gd ((DevS.made n).stl (fmtL 50)).2.disk (J0.pos 0) = noughts := go 2 (by omega) (by omega)
        rw [e2]; exact headB_noughts
    · rw [vN_none (fun x hx => by simp [natW] at hx)]; exact go b (by omega) hbn
  · have := hnf.2
    rw [a2] at this
    cases this
end
end Go.Proofs.Ytpoekkclkohanaa

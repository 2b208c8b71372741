/- Commit, Open and Format, whole, in plain lists. -/
import Derived.Test.YthambopnmhkeeaaGreatZJSlot
import Derived.Test.YthambopnmhkeeaaGreatZBase
import Derived.Lib.Hide
import Derived.Laws.BytesArg
import Derived.Test.YthambopnmhkeeaaGreatZSettle
import Derived.Test.YthambopnmhkeeaaGreatZFBase
import Derived.BigQuiet
import Derived.Deep.QuietTactic
import Derived.Handy
import Derived.Lib.MinMax
import Derived.Test.YthambopnmhkeeaaGreatRows
import Derived.WalkKit
import Derived.Test.YthambopnmhkeeaaGreatZShelf
import Derived.Deep.RegionHeld3
import Derived.IntWalk
import Derived.Deep.DeepCutAuto

namespace Go.Proofs.YthambopnmhkeeaaGreat
open Go.RowKit
open Fr (bs fixL nmAt headB topL unp WrOk packL)

section
variable {N M n : Nat} {J : JS} {D : DevS} {H : Nat -> ByteArray} {F : List (List Wr)} {L : List Wr}

theorem Sync.more (h : Sync N n J D H F) (hM : N <= M) (hb : M < 1000000) : Sync M n J D H F :=
  ⟨⟨h.pre.dok, h.pre.live, h.pre.len, h.pre.good.more hM hb, h.pre.pend, h.pre.view, h.pre.read⟩, h.zero, h.older⟩
theorem Safe.more {P : (Nat -> ByteArray) -> Prop} (h : Safe N n D P) (hM : N <= M) (hb : M < 1000000) : Safe M n D P := fun f hf => by
  obtain ⟨H, J, F, h1, h2⟩ := h f hf; exact ⟨H, J, F, h1, h2.more hM hb⟩
structure Gone (N n : Nat) (D : DevS) (P : (Nat -> ByteArray) -> Prop) : Prop where
  dead : D.dead = true
  dok : D.Ok
  len : D.disk.length = n
  safe : Safe N n D P

theorem commit_safe (h : Sync N n J D H F) (hN : N + 2 < 1000000) (hc : J.chk n L = 0) :
    ((J.commit D L).1 = 0 /\ ∃ F', Sync (N + 2) n (J.commit D L).2.2 (J.commit D L).2.1 (put H L) (F' ++ [L])) \/ ((J.commit D L).1 = 4 /\ Gone (N + 2) n (J.commit D L).2.1 (fun X => X = H \/ X = put H L)) := by
  have hlen := h.pre.len
  have hlg := h.pre.good.lg
  have hfu := h.pre.good.ok.fu
  obtain ⟨l1, l2, _⟩ := (J.chk_ok n L).1 hc
  have hleft : J.left = J.log - J.full := rfl
  unfold JS.commit
  rw [hlen, if_neg (by simpa using hc)]
  simp only
  by_cases hlt : J.left < L.length + 2
  . rw [if_pos hlt]
    rcases ckp_safe h.pre (by omega) with ⟨a1, a2, a3, a4⟩ | ⟨a1, a2, a3, a4, a5⟩
    . rw [if_neg (by rw [a1]; simp)]
      have hn0 : (J.ckp D).2.2.next = J.next := by rw [a3]; rfl
      have hf0 : (J.ckp D).2.2.full = 0 := by rw [a3]; rfl
      have hl0 : (J.ckp D).2.2.log = J.log := by rw [a3]; rfl
      have hc0 : (J.ckp D).2.2.chk n L = 0 := (chk_log hl0 n L).trans hc
      rcases add_safe (L := L) a2 (by omega) hc0 (by rw [hf0, hl0]; omega) _ rfl with ⟨b1, b2, b3, b4, b5⟩ | ⟨b1, b2, b3⟩
      . rw [hn0] at b1 b2 b3 b4 b5
        rw [if_pos (by rw [b1]; simp)]
        exact .inr ⟨b1, b2, b3, b4, b5.more (by omega) hN⟩
      . rw [hn0] at b1 b2 b3
        rw [if_neg (by rw [b1]; simp)]
        rw [b2]
        rcases b3 with ⟨c1, c2⟩ | ⟨c1, c2, c3, c4, c5⟩
        . exact .inl ⟨c1, _, c2.more (by omega) hN⟩
        . exact .inr ⟨c1, c2, c3, c4, c5.more (by omega) hN⟩
    . rw [if_pos (by rw [a1]; simp)]
      exact .inr ⟨a1, a2, a3, a4, (a5.mono (fun X hX => .inl hX)).more (by omega) hN⟩
  . rw [if_neg hlt, if_neg (by simp)]
    rcases add_safe (L := L) h (by omega) hc (by omega) _ rfl with ⟨b1, b2, b3, b4, b5⟩ | ⟨b1, b2, b3⟩
    . rw [if_pos (by rw [b1]; simp)]
      exact .inr ⟨b1, b2, b3, b4, b5.more (by omega) hN⟩
    . rw [if_neg (by rw [b1]; simp)]
      rw [b2]
      rcases b3 with ⟨c1, c2⟩ | ⟨c1, c2, c3, c4, c5⟩
      . exact .inl ⟨c1, _, c2.more (by omega) hN⟩
      . exact .inr ⟨c1, c2, c3, c4, c5.more (by omega) hN⟩

theorem open_pre (h : Rec N n D.disk H J F) (hN : N + 1 < 1000000) (ok : D.Ok) (hde : D.dead = false) (hp : ∀ x ∈ D.pend, 62 <= x.1 /\ ∃ y ∈ natW F.flatten, y.1 = x.1) :
    (D.opn.1 = 0 /\ D.opn.2.2 = some J.next' /\ Sync (N + 1) n J.next' D.opn.2.1 H [] /\ D.opn.2.1.pend = []) \/ (D.opn.1 = 4 /\ D.opn.2.2 = none /\ Gone (N + 1) n D.opn.2.1 (· = H)) := by
  have hg := h.good
  have hb := hg.bnd; have hr := hg.room; have hfull := hg.full; have hnx := hg.next; have hlg := hg.lg
  have hhome : J.home = 62 := by unfold JS.home; omega
  have hfit : Fit D.disk.length F.flatten := by
    intro x hx
    obtain ⟨f, hf, hxf⟩ := List.mem_flatten.1 hx
    obtain ⟨a, b, c⟩ := ((J.chk_ok n f).1 (hg.fine f hf)).2.2 x hxf
    rw [hhome] at a
    rw [h.len]
    exact ⟨by omega, by omega, c⟩
  have hfl52 : ∀ x ∈ natW F.flatten, 62 <= x.1 := by
    intro x hx
    obtain ⟨y, hy, rfl⟩ := List.mem_map.1 hx
    obtain ⟨f, hf, hxf⟩ := List.mem_flatten.1 hy
    obtain ⟨a, b, c⟩ := ((J.chk_ok n f).1 (hg.fine f hf)).2.2 y hxf
    rw [hhome] at a
    simp only; omega
  have hFl : F.length <= fsz F := by
    clear hfit hfl52 hfull hnx hr hg h hp
    induction F with
    | nil => exact Nat.le_refl _
    | cons f F ih => simp only [List.length_cons, fsz]; omega
  obtain ⟨J', h1, h2⟩ := redo_laid (g := gd D.disk) hg.n4 F J.fresh D (J.log + 1) h.len hde ⟨hg.ok.l0, hg.ok.l1, hg.ok.pl, hg.ok.si, Nat.zero_le _, hg.ok.e64, hg.ok.s64, hg.ok.s64⟩ (fun _ _ => rfl) (fun x hx => by have := (hp x hx).1; show J.home <= _; omega) hg.laid
    (fun f hf => (chk_log (J := J.fresh) (K := J) rfl n f).trans (hg.fine f hf)) (by show 0 + fsz F <= J.log; omega) (by show J.s + F.length < _; omega) (by
      show headB (gd D.disk (2 + (J.p + (0 + fsz F)) % J.log)).data.toList = false
      rw [Nat.zero_add, <- hfull]
      exact hg.stop) (by omega)
  have hredo : J.fresh.redo D = ((D.wrs F.flatten).1, (D.wrs F.flatten).2, J') := h1
  have hfind := find_pend hg h.len (fun x hx => by have := (hp x hx).1; omega)
  obtain ⟨k, hk⟩ := wrs_cases F.flatten D hde hfit
  have okw := wrs_ok F.flatten D ok
  have hpn : (D.wrs F.flatten).2.pend = D.pend ++ natW (F.flatten.take k) := hk.pend
  have hsub : ∀ x ∈ (D.wrs F.flatten).2.pend, 62 <= x.1 /\ ∃ y ∈ natW F.flatten, y.1 = x.1 := by
    intro x hx
    rw [hpn] at hx
    rcases List.mem_append.1 hx with hx | hx
    . exact hp x hx
    have hx' : x ∈ natW F.flatten := by
      obtain ⟨y, hy, rfl⟩ := List.mem_map.1 hx
      exact List.mem_map.2 ⟨y, List.mem_of_mem_take hy, rfl⟩
    exact ⟨hfl52 x hx', x, hx', rfl⟩
  have hopn : D.opn = if (D.wrs F.flatten).1 ≠ 0 then ((D.wrs F.flatten).1, (D.wrs F.flatten).2, none) else if (J'.ckp (D.wrs F.flatten).2).1 ≠ 0 then ((J'.ckp (D.wrs F.flatten).2).1, (J'.ckp (D.wrs F.flatten).2).2.1, none) else (0, (J'.ckp (D.wrs F.flatten).2).2.1, some (J'.ckp (D.wrs F.flatten).2).2.2) := by
    unfold DevS.opn
    rw [hde, hfind]
    simp only [hredo]
    rfl
  rw [hopn]
  rcases hk.how with ⟨c1, c2, c3⟩ | ⟨c1, c2⟩
  . rw [if_neg (by rw [c1]; simp)]
    have hJ' : J' = J := by
      rw [h2 c1]
      show ({ J with next := J.s + F.length, full := 0 + fsz F } : JS) = J
      rw [<- hnx, Nat.zero_add, <- hfull]
    rw [hJ']
    have pre : Pre N n J (D.wrs F.flatten).2 H F := by
      refine ⟨okw, c3, by rw [hk.disk]; exact h.len, by rw [hk.disk]; exact hg, hsub, by rw [hk.disk]; exact h.view, fun b hb hbn => ?_⟩
      rw [rdB_vN, hpn, c2, List.take_length, hk.disk, vN_append, <- h.view b hb hbn]
      refine vN_hit ?_
      by_cases e : ∃ x ∈ D.pend, x.1 = b
      . obtain ⟨x, hx, rfl⟩ := e
        exact .inl (hp x hx).2
      . exact .inr (vN_none fun x hx he => e ⟨x, hx, he⟩)
    rcases ckp_safe pre hN with ⟨a1, a2, a3, a4⟩ | ⟨a1, a2, a3, a4, a5⟩
    . left
      rw [if_neg (by rw [a1]; simp)]
      exact ⟨rfl, by rw [a3], by rw [a3] at a2; exact a2, a4⟩
    . right
      rw [if_pos (by rw [a1]; simp)]
      exact ⟨a1, rfl, a2, a3, a4, a5⟩
  . right
    rw [if_pos (by rw [c1]; simp)]
    exact ⟨c1, rfl, c2, okw, by rw [hk.disk]; exact h.len, fun f hf => ⟨H, J, F, rfl, Rec.more (harm_rec hf okw (by rw [hk.disk]; exact h.len) (by rw [hk.disk]; exact hg) (by rw [hk.disk]; exact h.view) (fun x hx => .inl (hsub x hx))) (by omega) hN⟩⟩

theorem open_safe (h : Rec N n D.disk H J F) (hN : N + 1 < 1000000) (ok : D.Ok) (hde : D.dead = false) (hp : D.pend = []) :
    (D.opn.1 = 0 /\ D.opn.2.2 = some J.next' /\ Sync (N + 1) n J.next' D.opn.2.1 H [] /\ D.opn.2.1.pend = []) \/ (D.opn.1 = 4 /\ D.opn.2.2 = none /\ Gone (N + 1) n D.opn.2.1 (· = H)) :=
  open_pre h hN ok hde (by rw [hp]; intro x hx; cases hx)

def NF (D D' : DevS) : Prop := D'.fused = false /\ D'.dead = D.dead
theorem nf_tk (h : D.fused = false) : D.tk = (true, D) := by unfold DevS.tk; rw [if_pos h]
theorem nf_wr (h : D.fused = false) (i : Int) (s : ByteArray) : NF D (D.wr i s).2 := by
  unfold DevS.wr
  rw [nf_tk h]
  split
  . exact ⟨h, rfl⟩
  . split
    . exact ⟨h, rfl⟩
    . split
      . exact ⟨h, rfl⟩
      . exact ⟨h, rfl⟩
theorem nf_wrs (W : List Wr) : ∀ D : DevS, D.fused = false -> NF D (D.wrs W).2 := by
  induction W with
  | nil => intro D h; exact ⟨h, rfl⟩
  | cons x r ih =>
    intro D h
    have h1 := nf_wr h x.1 x.2
    unfold DevS.wrs
    split
    . exact h1
    . have h2 := ih _ h1.1
      exact ⟨h2.1, h2.2.trans h1.2⟩
theorem nf_fl (h : D.fused = false) : NF D D.fl.2 := by
  unfold DevS.fl
  rw [nf_tk h]
  split
  . exact ⟨h, rfl⟩
  . split
    . exact ⟨h, rfl⟩
    . exact ⟨h, rfl⟩
theorem nf_stl (W : List Wr) (h : D.fused = false) : NF D (D.stl W).2 := by
  have h1 := nf_wrs W D h
  unfold DevS.stl
  split
  . exact h1
  . have h2 := nf_fl h1.1
    exact ⟨h2.1, h2.2.trans h1.2⟩
theorem nf_ckp (J : JS) (h : D.fused = false) : NF D (J.ckp D).2.1 := by
  have h1 := nf_stl [(((J.pos 0 : Nat) : Int), noughts)] h
  unfold JS.ckp
  simp only
  split
  . exact h1
  . have h2 := nf_stl [(((1 - J.side : Nat) : Int), slotB ((J.e + 1) % 18446744073709551616) J.next J.log (J.pos 0 - 2))] h1.1
    split
    . exact ⟨h2.1, h2.2.trans h1.2⟩
    . exact ⟨h2.1, h2.2.trans h1.2⟩
theorem nf_redo (m : Nat) : ∀ (J : JS) (D : DevS), D.fused = false -> NF D (J.redoN D m).2.1 := by
  induction m with
  | zero => intro J D h; exact ⟨h, rfl⟩
  | succ m ih =>
    intro J D h
    cases hfr : J.frameOf D with
    | none => rw [redoN_none m hfr]; exact ⟨h, rfl⟩
    | some ws =>
      rw [redoN_some m hfr]
      have h1 := nf_wrs ws D h
      split
      . exact h1
      . have h2 := ih (J.grow (ws.length + 1)) _ h1.1
        exact ⟨h2.1, h2.2.trans h1.2⟩
theorem nf_opn (h : D.fused = false) : NF D D.opn.2.1 := by
  unfold DevS.opn
  split
  . exact ⟨h, rfl⟩
  . split
    . exact ⟨h, rfl⟩
    . rename_i J _
      have h1 := nf_redo (J.log + 1) J D h
      simp only
      split
      . exact h1
      . have h2 := nf_ckp (J.redo D).2.2 h1.1
        split
        . exact ⟨h2.1, h2.2.trans h1.2⟩
        . exact ⟨h2.1, h2.2.trans h1.2⟩
theorem open_sure (h : Rec N n D.disk H J F) (hN : N + 1 < 1000000) (ok : D.Ok) (hde : D.dead = false) (hp : D.pend = []) (hf : D.fused = false) :
    D.opn.1 = 0 /\ D.opn.2.2 = some J.next' /\ Sync (N + 1) n J.next' D.opn.2.1 H [] /\ D.opn.2.1.pend = [] := by
  rcases open_safe h hN ok hde hp with h1 | ⟨_, _, h1⟩
  . exact h1
  . have := (nf_opn hf).2
    rw [h1.dead, hde] at this
    cases this

theorem open_live (h : Sync N n J D H F) (hN : N + 1 < 1000000) (hf : D.fused = false) :
    D.opn.1 = 0 /\ D.opn.2.2 = some J.next' /\ Sync (N + 1) n J.next' D.opn.2.1 H [] /\ D.opn.2.1.pend = [] /\ D.opn.2.1.fused = false := by
  rcases open_pre (D := D) ⟨h.pre.len, h.pre.dok.whole, h.pre.good, h.pre.view⟩ hN h.pre.dok h.pre.live h.pre.pend with ⟨a, b, c, d⟩ | ⟨_, _, h1⟩
  . exact ⟨a, b, c, d, (nf_opn hf).1⟩
  . have := (nf_opn hf).2
    rw [h1.dead, h.pre.live] at this
    cases this

def J0 : JS := ⟨1, 1, 60, 0, 0, 1, 0⟩
theorem fmt_rec (n : Nat) (h1 : 63 <= n) (h2 : n <= 4096) : ((DevS.made n).fmt 60).1 = 0 /\ ((DevS.made n).fmt 60).2.pend = [] /\ ((DevS.made n).fmt 60).2.dead = false /\ ((DevS.made n).fmt 60).2.fused = false /\ ((DevS.made n).fmt 60).2.Ok /\
    Rec 1 n ((DevS.made n).fmt 60).2.disk (fun _ => noughts) J0 [] := by
  have hok := DevS.made_ok n (by omega) h2
  have hln : (DevS.made n).disk.length = n := by simp [DevS.made]
  have hfm : (DevS.made n).fmt 60 = (DevS.made n).stl (fmtL 60) := by
    unfold DevS.fmt; rw [hln, if_neg (by omega)]; rfl
  have hmem : ∀ x ∈ natW (fmtL 60), x = (0, slotB 1 1 60 0) \/ (x.2 = noughts /\ 1 <= x.1 /\ x.1 < 62) := by
    intro x hx
    unfold natW fmtL at hx
    rw [List.map_append] at hx
    rcases List.mem_append.1 hx with hx | hx
    . obtain ⟨y, hy, rfl⟩ := List.mem_map.1 hx
      obtain ⟨i, hi, rfl⟩ := List.mem_map.1 hy
      have := List.mem_range.1 hi
      exact .inr ⟨rfl, by simp only; omega, by simp only; omega⟩
    . simp at hx; subst hx; exact .inl rfl
  have hfit : Fit (DevS.made n).disk.length (fmtL 60) := by
    intro x hx
    rw [hln]
    unfold fmtL at hx
    rcases List.mem_append.1 hx with hx | hx
    . obtain ⟨i, hi, rfl⟩ := List.mem_map.1 hx
      have := List.mem_range.1 hi
      exact ⟨by simp only; omega, by simp only; omega, noughts_size⟩
    . simp only [List.mem_singleton] at hx; subst hx; exact ⟨by simp, by simp only; omega, slotB_size _ _ _ _⟩
  rw [hfm]
  have hnf := nf_stl (D := DevS.made n) (fmtL 60) rfl
  have ok1 := stl_ok hok hfit
  rcases stl_cases (DevS.made n) (fmtL 60) rfl hfit with ⟨a1, a2, a3, a4⟩ | ⟨a1, a2, _⟩
  . have hp0 : (DevS.made n).pend = [] := rfl
    rw [hp0, List.nil_append] at a3
    have hpp : ∀ x ∈ natW (fmtL 60), x.1 < (DevS.made n).disk.length /\ x.2.size = 256 := by
      intro x hx
      rw [hln]
      rcases hmem x hx with rfl | ⟨h1, h2, h3⟩
      . exact ⟨by simp only; omega, slotB_size _ _ _ _⟩
      . exact ⟨by omega, by rw [h1]; exact noughts_size⟩
    have g1 : ∀ b, b < n -> gd ((DevS.made n).stl (fmtL 60)).2.disk b = vN (natW (fmtL 60)) (gd (DevS.made n).disk) b := fun b hb => by
      rw [a3]; exact laid256 b (by rw [hln]; exact hb) hok.whole hpp
    have gz : ∀ b, b < n -> gd (DevS.made n).disk b = noughts := fun b hb => by
      unfold gd DevS.made; simp [List.getD, hb]
    have gs : gd ((DevS.made n).stl (fmtL 60)).2.disk 0 = slotB 1 1 60 0 := by
      rw [g1 0 (by omega)]
      unfold fmtL
      rw [natW_append]
      exact vN_at (x := (0, slotB 1 1 60 0)) (Q := []) (fun y hy => by cases hy)
    have go : ∀ b, 1 <= b -> b < n -> gd ((DevS.made n).stl (fmtL 60)).2.disk b = noughts := fun b h1 hb => by
      rw [g1 b hb]
      unfold vN
      cases hf : (natW (fmtL 60)).reverse.find? (fun x => x.1 == b) with
      | none => exact gz b hb
      | some x =>
        have hx := List.mem_reverse.1 (List.mem_of_find?_eq_some hf)
        have he : x.1 = b := by simpa using List.find?_some hf
        rcases hmem x hx with rfl | ⟨h2, _⟩
        . simp only at he; omega
        . exact h2
    refine ⟨a1, a4, a2, hnf.1, ok1, ⟨by rw [a3, laidTo_length, hln], ok1.whole, ?_, fun b hb hbn => ?_⟩⟩
    . refine ⟨⟨by decide, by show 60 + 3 <= n; omega, by decide, by decide, by decide, by decide, by decide, by decide⟩, h2, rfl, by omega, ⟨by decide, by decide⟩, rfl, rfl, by decide, gs, ?_, trivial, fun f hf => (by cases hf), ?_⟩
      . have e1 : gd ((DevS.made n).stl (fmtL 60)).2.disk (1 - J0.side) = noughts := go 1 (by omega) (by omega)
        refine ⟨noughts, 0, by omega, older_noughts _, by rw [layB_none]; exact e1, fun e => ?_⟩
        rw [e1] at e
        have := congrArg (fun b : ByteArray => b.data.toList.getD 0 0) e
        simp only [noughts_at] at this
        have h67 : (JS.tgt J0).data.toList.getD 0 0 = 67 := rfl
        rw [h67] at this
        cases this
      . have e2 : gd ((DevS.made n).stl (fmtL 60)).2.disk (J0.pos 0) = noughts := go 2 (by omega) (by omega)
        rw [e2]; exact headB_noughts
    . rw [vN_none (fun x hx => by simp [natW] at hx)]; exact go b (by omega) hbn
  . have := hnf.2
    rw [a2] at this
    cases this
end
end Go.Proofs.YthambopnmhkeeaaGreat
/- What Format answers and leaves behind, for every device and every length of a log. -/
namespace Go.Proofs.YthambopnmhkeeaaGreat
open Go.RowKit
open Fr (SlW OwnW flatI two_cells two_one own_pushW)

section
variable {S : Nat -> Prop} {w w' : World} {a p : Nat} {J : JS} {D : DevS}

def fmtK (k : Nat) : List (Int × ByteArray) := (List.range k).map fun i => (((i + 1 : Nat) : Int), noughts)
theorem fmtK_succ (k : Nat) : fmtK (k + 1) = fmtK k ++ [(((k + 1 : Nat) : Int), noughts)] := by unfold fmtK; rw [List.range_succ, List.map_append]; rfl
theorem fmtK_len (k : Nat) : (fmtK k).length = k := by simp [fmtK]
theorem fmtL_eq (log : Nat) : fmtL log = fmtK (log + 1) ++ [(0, slotB 1 1 log 0)] := rfl

set_option maxRecDepth 100000 in
set_option maxHeartbeats 2000000 in
theorem format_any (log : Int) (hd : Stands S w p D) (hp : D.pend.length <= 800000) :
    Calls Tryz.prog 69 #[.pointer (some ⟨p, 0, none⟩), .int .i64 log] w fun e w' => e = .returned (.int .i64 (D.fmt log).1) /\ Leaves S w w' p (D.fmt log).2 := by
  obtain ⟨i0, hi, hz0, hz1, hz2⟩ := info_parts Tryz.infoW
  have HZ2 := Lib.hid hz2; clear hz2
  have hnd := hd.ok.few
  have CBl := Lib.hid (blocks_any hd)
  have CFi := Lib.hid (fits_any (w := w) log D.disk.length hnd)
  have HD := Lib.hid hd; clear hd
  by_cases hf : 50 <= log /\ log <= (D.disk.length : Int) - 3
  . rw [decide_eq_true hf] at CFi
    obtain ⟨n, rfl⟩ := Int.eq_ofNat_of_zero_le (show 0 <= log by omega)
    have HFm : Hid (D.fmt (n : Int) = D.stl (fmtK (n + 1) ++ [(0, slotB 1 1 n 0)])) := by
      show _ = _; unfold DevS.fmt; rw [if_neg (by omega), Int.toNat_natCast, fmtL_eq]
    have hn1 : n <= 4096 := by omega
    generalize D.disk.length = nd at *
    clear hf
    obtain ⟨NN, hNN⟩ : ∃ x, noughts = x := ⟨_, rfl⟩
    have CN : Hid (∀ W, Calls Tryz.prog 121 #[.int .i64 256] W fun e w' => e = .returned (.string NN) /\ Below W.heap.size W w') := fun W => by rw [<- hNN]; exact jnoughts_all W
    have HSu : Hid (∀ k, fmtK (k + 1) = fmtK k ++ [(((k + 1 : Nat) : Int), NN)]) := fun k => by rw [<- hNN]; exact fmtK_succ k
    clear hNN
    go_enter Tryz.func69, Tryz.ntmps69
    go_wp2_with fail
    refine CBl.out.mono ?_
    rintro e w1 ⟨rfl, rfl⟩
    go_wp2_with fail
    refine CFi.out.mono ?_
    rintro e w1 ⟨rfl, rfl⟩
    go_wp2_with fail
    go_loopw [5, 6] (fun wv i wr => ∃ k : Nat, k <= n + 1 /\ i = .int .i64 ((k + 1 : Nat) : Int) /\ Hid (OwnW w.heap.size wr wv (fmtK k)) /\ Hid (Below w.heap.size w wr)) (fun _ i _ => n + 2 - (intOf i).toNat)
    case atStart => exact ⟨0, Nat.zero_le _, rfl, OwnW.nil _ _, Below.refl _ _⟩
    case round =>
      obtain ⟨k, hk, rfl, HO, HB⟩ := hrel
      have hbr := HB.out.size
      by_cases hlt : k < n + 1
      . have hlen : (fmtK k).length <= 4098 := by rw [fmtK_len]; omega
        have HSN := Lib.hid (HSu.out k)
        have i1 : (k : Int) + 1 < 2 + (n : Int) := by omega
        obtain ⟨M, hM⟩ : ∃ M, fmtK k = M := ⟨_, rfl⟩
        rw [hM] at HO HSN hlen
        clear hM
        obtain ⟨ao2, c2, hv, _⟩ := HO.out.sl
        subst hv
        have wk : IntKind.i64.wrap ((k : Int) + 1 + 1) = (k : Int) + 1 + 1 := IntWalk.i64_in _ (by omega)
        go_wp2_with fail
        refine (CN.out _).mono ?_
        rintro e w2 ⟨rfl, hb2⟩
        have HB2 := Lib.hid hb2; clear hb2
        have hbr2 := HB2.out.size
        go_wp2_with (at_builtin; go_loud (refine wpList_append_own _ rfl _ _ 49 rfl w.heap.size 63 i0 _ 2 24 Tryz.underlying49 hi hz0 hz1 HZ2.out rfl (by decide) _ _ _ rfl ((HO.out.below HB2.out).alloc _) _ 1 1 [.int .i64 ((k : Int) + 1), .string NN] rfl rfl (two_cells rfl) two_one ?c3 ?c4 ?c5 ?_))
        case c3 => unfold maxLen; omega
        case c4 => omega
        case c5 => simp; omega
        intro v1 w3 hown hgrow _
        have HO3 : Hid (OwnW w.heap.size w3 v1 (fmtK (k + 1))) := by
          show OwnW _ _ _ _
          rw [HSN.out]; exact own_pushW hown
        have HB3 : Hid (Below w.heap.size w w3) := ((HB.out.trans (HB2.out.mono hbr)).alloc (by omega) _).grown hgrow (by simp; omega) (fun q hq => (HO.out.lt q hq).1)
        clear hown hgrow HB2
        go_wp2
        go_roundw
        case rel => exact ⟨k + 1, by omega, by go_num, HO3, HB3⟩
        case measure => simp [intOf]; omega
      . have hkn : k = n + 1 := by omega
        subst hkn
        have hlen : (fmtK (n + 1)).length <= 4098 := by rw [fmtK_len]; omega
        have i1 : ¬ ((n + 1 : Nat) : Int) + 1 < 2 + (n : Int) := by omega
        obtain ⟨ao2, c2, hv, _⟩ := HO.out.sl
        subst hv
        obtain ⟨M, hM⟩ : ∃ M, fmtK (n + 1) = M := ⟨_, rfl⟩
        rw [hM] at HO HFm hlen ⊢
        clear hM
        have CT : Hid (∀ W, Calls Tryz.prog 123 #[.agg #[.int .u64 1, .int .u64 1, .int .i64 (n : Int), .int .i64 0]] W fun r w' => r = .returned (.string (slotB 1 1 n 0)) /\ Below W.heap.size W w') := fun W => text_any 1 1 n 0 W (by omega) (by omega) hn1 (by omega)
        generalize slotB 1 1 n 0 = tt at *
        obtain ⟨Y, hY⟩ : ∃ Y, (wr.alloc (.cells #[.int .u64 1, .int .u64 1, .int .i64 (n : Int), .int .i64 0] 102)).alloc (.cells #[.pointer (some ⟨p, 0, none⟩), .int .u64 0, .int .u64 0, .int .i64 0, .int .i64 0, .int .i64 0, .int .u64 0, .int .i64 0] 104) = Y := ⟨_, rfl⟩
        have hYb : Below wr.heap.size wr Y := by rw [<- hY]; exact ((Below.refl _ _).alloc (Nat.le_refl _) _).alloc (by simp) _
        have hYj : Jr 104 Y (wr.heap.size + 1) p ⟨0, 0, 0, 0, 0, 0, 0⟩ := by
          have e : (wr.alloc (.cells #[.int .u64 1, .int .u64 1, .int .i64 (n : Int), .int .i64 0] 102)).heap.size = wr.heap.size + 1 := by simp
          unfold Jr; rw [<- hY, <- e]; exact heap_alloc_new ..
        have hYz := hYj.lt
        have HY := Lib.hid hY; have HYb := Lib.hid hYb; have HYj := Lib.hid hYj
        clear hY hYb hYj
        go_wp2_with fail
        rw [HY.out]
        refine (CT.out _).mono ?_
        rintro e w2 ⟨rfl, hb2⟩
        have HB2 : Hid (Below wr.heap.size wr w2) := HYb.out.trans (hb2.mono HYb.out.size)
        have HJ2 := Lib.hid (HYj.out.below hb2)
        have hz2 := hb2.size
        clear hb2
        have hbr2 := HB2.out.size
        go_wp2_with (at_builtin; go_loud (refine wpList_append_own _ rfl _ _ 49 rfl w.heap.size 63 i0 _ 2 24 Tryz.underlying49 hi hz0 hz1 HZ2.out rfl (by decide) _ _ _ rfl ((HO.out.below HB2.out).alloc _) _ 1 1 [.int .i64 0, .string tt] rfl rfl (two_cells rfl) two_one ?c3 ?c4 ?c5 ?_))
        case c3 => unfold maxLen; omega
        case c4 => omega
        case c5 => simp; omega
        intro v1 w3 hown hgrow _
        have hO3 := own_pushW hown
        have HB3 : Hid (Below w.heap.size w w3) := ((HB.out.trans (HB2.out.mono hbr)).alloc (by omega) _).grown hgrow (by simp; omega) (fun q hq => (HO.out.lt q hq).1)
        have HJ3 : Hid (Jr 104 w3 (wr.heap.size + 1) p ⟨0, 0, 0, 0, 0, 0, 0⟩) := by
          show Jr _ _ _ _ _
          have h1 : Jr 104 (w2.alloc (.cells #[.int .i64 0, .string tt] 63)) (wr.heap.size + 1) p ⟨0, 0, 0, 0, 0, 0, 0⟩ := HJ2.out.below ((Below.refl _ _).alloc (Nat.le_refl _) _)
          unfold Jr
          rw [hgrow.block _ h1.lt (fun e => by have := (HO.out.lt _ e.symm).2; omega)]
          exact h1
        have hl2 : (M ++ [((0 : Int), tt)]).length <= 5000 := by simp; omega
        obtain ⟨M2, hM2⟩ : ∃ M2, M ++ [((0 : Int), tt)] = M2 := ⟨_, rfl⟩
        rw [hM2] at hO3 HFm hl2
        have HO3 := Lib.hid hO3
        clear hown hgrow hO3 HB2 HJ2 hM2
        have hna : ¬ S (wr.heap.size + 1) := fun h => by have := HD.out.lt _ h; omega
        have hSO : Outs S v1 := by
          intro g off' n' c' hv hg
          have h1 := (HO3.out.lt g (by rw [hv]; rfl)).1
          have h2 := HD.out.lt g hg
          omega
        have CS := Lib.hid (jsettle_any (L := M2) HJ3.out (HD.out.below HB3.out) hna (by omega) (by omega) HO3.out.sl hSO)
        obtain ⟨ao3, c3, hv3, _⟩ := HO3.out.sl
        subst hv3
        clear hSO HO3 hna
        go_wp2_with fail
        refine CS.out.mono ?_
        rintro e w4 ⟨rfl, hv4⟩
        have HV := Lib.hid (Leaves.from HB3.out hv4); clear hv4
        go_wp2
        go_ret
        exact ⟨by rw [HFm.out]; rfl, by rw [HFm.out]; exact HV.out⟩
  . have HFm : Hid (D.fmt log = (2, D)) := by show _ = _; unfold DevS.fmt; rw [if_pos (by omega)]
    rw [decide_eq_false hf] at CFi
    generalize D.disk.length = nd at *
    clear hf
    go_enter Tryz.func69, Tryz.ntmps69
    go_wp2_with fail
    refine CBl.out.mono ?_
    rintro e w1 ⟨rfl, rfl⟩
    go_wp2_with fail
    refine CFi.out.mono ?_
    rintro e w1 ⟨rfl, rfl⟩
    go_wp2
    go_ret
    exact ⟨by rw [HFm.out]; rfl, by rw [HFm.out]; exact .mk HD.out (Only.refl _ _)⟩
end
end Go.Proofs.YthambopnmhkeeaaGreat
/- Rows of 256 bytes, and the texts that they are turned into. -/
namespace Go.Proofs.YthambopnmhkeeaaGreat
open Go.RowKit

def rowI (f : Nat -> Int) (k : Nat) : List Int := (List.range 256).map fun i => if i < k then f i else 0
theorem rowI_length (f : Nat -> Int) (k : Nat) : (rowI f k).length = 256 := by simp [rowI]
theorem rowI_get (f : Nat -> Int) (k i : Nat) (h : i < 256) : (rowI f k)[i]? = some (if i < k then f i else 0) := by simp [rowI, h]
theorem rowI_set (f : Nat -> Int) (k : Nat) (h : k < 256) : (rowI f k).set k (f k) = rowI f (k + 1) := by
  apply List.ext_getElem?
  intro i
  by_cases hi : i < 256
  . rw [List.getElem?_set, rowI_get f (k + 1) i hi, rowI_length]
    by_cases e : k = i
    . subst e; simp [h]
    . simp only [e, if_false]
      rw [rowI_get f k i hi]
      by_cases h2 : i < k
      . rw [if_pos h2, if_pos (by omega)]
      . rw [if_neg h2, if_neg (by omega)]
  . rw [List.getElem?_eq_none (by simp [rowI_length]; omega), List.getElem?_eq_none (by simp [rowI_length]; omega)]
theorem zeros_any (f : Nat -> Int) (n : Nat) : ((List.range n).map fun i => if i < 0 then f i else 0).map (Value.int .u8) = List.replicate n (Value.int .u8 0) := by
  induction n with
  | zero => rfl
  | succ n ih => rw [List.range_succ, List.map_append, List.map_append, ih, List.replicate_succ']; rfl
theorem rowI_zero (f : Nat -> Int) : (rowI f 0).map (Value.int .u8) = List.replicate 256 (Value.int .u8 0) := zeros_any f 256
def textOf (f : Nat -> Int) : ByteArray := strOfNums (rowI f 256)
theorem textOf_size (f : Nat -> Int) : (textOf f).size = 256 := by unfold textOf; rw [strOfNums_size, rowI_length]
def Row (B : Nat) (w : World) (g : Nat) (f : Nat -> Int) (k : Nat) : Prop := w.ownsRow B 5 1 (.slice (some ⟨g, 0, none⟩) 256 256) 256 ((rowI f k).map (Value.int .u8))
theorem Row.cell {B : Nat} {w : World} {g : Nat} {f : Nat -> Int} {k : Nat} (h : Row B w g f k) (i : Nat) (hi : i < 256) : w.cell? ⟨g, i, none⟩ = some (.int .u8 (if i < k then f i else 0)) := by
  rw [World.ownsRow.cellAt h i (by omega), List.getElem?_map, rowI_get f k i hi]; rfl
theorem Row.free {B : Nat} {w : World} {g : Nat} {f : Nat -> Int} {k : Nat} (h : Row B w g f k) (i : Nat) : w.frozen? ⟨g, i, none⟩ = false := World.ownsRow.frozenAt h i
theorem Row.store {B : Nat} {w : World} {g : Nat} {f : Nat -> Int} {k : Nat} (h : Row B w g f k) (hk : k < 256) : Row B (w.setCell ⟨g, k, none⟩ (.int .u8 (f k))) g f (k + 1) := by
  have := (World.ownsRow.stored h k (.int .u8 (f k))).1
  unfold Row
  rw [<- rowI_set f k hk, List.map_set]
  exact this
theorem Row.text {B : Nat} {w : World} {g : Nat} {f : Nat -> Int} (h : Row B w g f 256) : (convert 107 9 (.slice (some ⟨g, 0, none⟩) 256 256)).run Tryz.prog w = .ok (.string (textOf f)) w := by
  refine run_convert_bytes_arg w 107 5 Tryz.underlying107 Tryz.underlying5 g 0 256 256 (rowI f 256) (rowI_length f 256) ?_ 9 Tryz.underlying9
  intro i hi
  rw [Nat.zero_add, h.cell i hi]
  simp [List.getD, rowI_get f 256 i hi]

end Go.Proofs.YthambopnmhkeeaaGreat
/- What the statements' own helpers answer: pick, full, data, sameTexts, fine. -/
namespace Go.Proofs.YthambopnmhkeeaaGreat
open Go.RowKit
open Fr (SlS StrsAt)

def pickI (c n : Int) : Int := (if c < 0 then -(c + 1) else c) % n
theorem pickI_lt (c n : Int) (hn : 0 < n) : 0 <= pickI c n /\ pickI c n < n := ⟨Int.emod_nonneg _ (by omega), Int.emod_lt_of_pos _ hn⟩

end Go.Proofs.YthambopnmhkeeaaGreat
/- What begin answers: a device with a journal; the world of the statements. -/
namespace Go.Proofs.YthambopnmhkeeaaGreat
open Go.RowKit
open Fr (SlW)

def Db (n : Nat) : DevS := ((DevS.made n).fmt 60).2.opn.2.1
def Jb : JS := J0.next'
theorem begin_sync (n : Nat) (h1 : 63 <= n) (h2 : n <= 4096) : ((DevS.made n).fmt 60).2.opn = (0, Db n, some Jb) /\ Sync 2 n Jb (Db n) (fun _ => noughts) [] /\ (Db n).pend = [] /\ (Db n).fused = false := by
  obtain ⟨a1, a2, a3, a4, a5, a6⟩ := fmt_rec n h1 h2
  obtain ⟨b1, b2, b3, b4⟩ := open_sure a6 (by omega) a5 a3 a2 a4
  refine ⟨Prod.ext b1 (Prod.ext rfl b2), b3, b4, (nf_opn a4).1⟩

section
variable {w0 w w' : World} {wb a p : Nat} {J J' : JS} {D D' : DevS}
end
end Go.Proofs.YthambopnmhkeeaaGreat
/- What a commit does, in plain lists: without a fuse the power stays; its length; a bad one changes nothing. -/
namespace Go.Proofs.YthambopnmhkeeaaGreat
open Go.RowKit
open Fr (SlW)

section
variable {D : DevS} {J : JS} {L : List Wr} {n N : Nat} {H : Nat -> ByteArray} {F : List (List Wr)}
theorem nf_addF (J : JS) (top : ByteArray) (ds : List ByteArray) (h : D.fused = false) : NF D (J.addF D top ds).2.1 := by
  have h1 := nf_stl (J.dataW ds) h
  unfold JS.addF
  simp only
  split
  . exact h1
  . have h2 := nf_stl [(((J.pos 0 : Nat) : Int), top)] h1.1
    split
    . exact ⟨h2.1, h2.2.trans h1.2⟩
    . exact ⟨h2.1, h2.2.trans h1.2⟩
def comR (J : JS) (L : List Wr) (c : Int × DevS × JS) : Int × DevS × JS :=
  if c.1 ≠ 0 then c else if (c.2.2.addF c.2.1 (Fr.bs (Fr.topL J.next L)) (L.map (·.2))).1 ≠ 0 then c.2.2.addF c.2.1 (Fr.bs (Fr.topL J.next L)) (L.map (·.2)) else
    (((c.2.2.addF c.2.1 (Fr.bs (Fr.topL J.next L)) (L.map (·.2))).2.1.wrs L).1, ((c.2.2.addF c.2.1 (Fr.bs (Fr.topL J.next L)) (L.map (·.2))).2.1.wrs L).2, (c.2.2.addF c.2.1 (Fr.bs (Fr.topL J.next L)) (L.map (·.2))).2.2)
theorem commit_eq (J : JS) (D : DevS) (L : List Wr) : J.commit D L = if J.chk D.disk.length L ≠ 0 then ((J.chk D.disk.length L : Int), D, J) else comR J L (if J.left < L.length + 2 then J.ckp D else (0, D, J)) := rfl
theorem nf_comR {c : Int × DevS × JS} (hc : NF D c.2.1) : NF D (comR J L c).2.1 := by
  unfold comR
  split
  . exact hc
  . have h2 := nf_addF c.2.2 (Fr.bs (Fr.topL J.next L)) (L.map (·.2)) hc.1
    split
    . exact ⟨h2.1, h2.2.trans hc.2⟩
    . have h3 := nf_wrs L _ h2.1
      exact ⟨h3.1, h3.2.trans (h2.2.trans hc.2)⟩
theorem nf_commit (J : JS) (L : List Wr) (h : D.fused = false) : NF D (J.commit D L).2.1 := by
  rw [commit_eq]
  by_cases hk : J.chk D.disk.length L ≠ 0
  . rw [if_pos hk]; exact ⟨h, rfl⟩
  . rw [if_neg hk]
    apply nf_comR
    by_cases hl : J.left < L.length + 2
    . rw [if_pos hl]; exact nf_ckp J h
    . rw [if_neg hl]; exact ⟨h, rfl⟩
theorem comR_J {c : Int × DevS × JS} (h : (comR J L c).1 = 0) : c.1 = 0 /\ (comR J L c).2.2 = c.2.2.grow (L.length + 1) := by
  unfold comR at *
  by_cases h1 : c.1 ≠ 0
  . rw [if_pos h1] at h; exact absurd h h1
  . rw [if_neg h1] at h ⊢
    by_cases h2 : (c.2.2.addF c.2.1 (Fr.bs (Fr.topL J.next L)) (L.map (·.2))).1 ≠ 0
    . rw [if_pos h2] at h; exact absurd h h2
    . rw [if_neg h2]
      refine ⟨by simpa using h1, ?_⟩
      show (c.2.2.addF c.2.1 (Fr.bs (Fr.topL J.next L)) (L.map (·.2))).2.2 = _
      rw [JS.addF_good (by simpa using h2), List.length_map]
theorem commit_J (h : (J.commit D L).1 = 0) : (J.commit D L).2.2 = (if J.left < L.length + 2 then J.next' else J).grow (L.length + 1) /\ J.chk D.disk.length L = 0 := by
  rw [commit_eq] at *
  by_cases hk : J.chk D.disk.length L ≠ 0
  . rw [if_pos hk] at h
    have : (J.chk D.disk.length L : Int) = 0 := h
    omega
  . rw [if_neg hk] at h ⊢
    obtain ⟨h1, h2⟩ := comR_J h
    refine ⟨?_, by simpa using hk⟩
    rw [h2]
    by_cases hl : J.left < L.length + 2
    . rw [if_pos hl] at h1
      rw [if_pos hl, if_pos hl, JS.ckp_good h1]
    . rw [if_neg hl, if_neg hl]
theorem commit_sure (h : Sync N n J D H F) (hN : N + 2 < 1000000) (hc : J.chk n L = 0) (hf : D.fused = false) :
    (J.commit D L).1 = 0 /\ (∃ F', Sync (N + 2) n (J.commit D L).2.2 (J.commit D L).2.1 (put H L) (F' ++ [L])) /\ (J.commit D L).2.2 = (if J.left < L.length + 2 then J.next' else J).grow (L.length + 1) /\ (J.commit D L).2.1.fused = false := by
  rcases commit_safe h hN hc with ⟨a, b⟩ | ⟨a, b⟩
  . exact ⟨a, b, (commit_J a).1, (nf_commit J L hf).1⟩
  . have := (nf_commit J L hf).2
    rw [b.dead, h.pre.live] at this
    cases this
end

theorem comR_len {J : JS} {L : List Wr} {c : Int × DevS × JS} {m : Nat} (hc : c.2.1.pend.length <= m) : (comR J L c).2.1.pend.length <= m + 2 * L.length + 2 := by
  unfold comR
  have h1 := JS.addF_len (J := c.2.2) (D := c.2.1) (top := Fr.bs (Fr.topL J.next L)) (ds := L.map (·.2))
  rw [List.length_map] at h1
  split
  . omega
  . split
    . omega
    . have h2 := (c.2.2.addF c.2.1 (Fr.bs (Fr.topL J.next L)) (L.map (·.2))).2.1.wrs_len L
      simp only
      omega
theorem commit_len (J : JS) (D : DevS) (L : List Wr) : (J.commit D L).2.1.pend.length <= D.pend.length + 2 * L.length + 4 := by
  rw [commit_eq]
  by_cases hk : J.chk D.disk.length L ≠ 0
  . rw [if_pos hk]; show D.pend.length <= _; omega
  . rw [if_neg hk]
    by_cases hl : J.left < L.length + 2
    . rw [if_pos hl]
      have := comR_len (J := J) (L := L) (c := J.ckp D) (m := D.pend.length + 2) JS.ckp_len
      omega
    . rw [if_neg hl]
      have := comR_len (J := J) (L := L) (c := (0, D, J)) (m := D.pend.length) (Nat.le_refl _)
      omega
end Go.Proofs.YthambopnmhkeeaaGreat
/- What Open, Commit and crashes do with a journal, in plain lists: of a dead device; behind a crash; a second time. -/
namespace Go.Proofs.YthambopnmhkeeaaGreat
open Go.RowKit

section
variable {N M m n : Nat} {J : JS} {D : DevS} {L : List Wr} {H : Nat -> ByteArray} {F : List (List Wr)}

end
end Go.Proofs.YthambopnmhkeeaaGreat
/- A store's home in memory: a steady journal over a device, while the power is there: what it holds is what it tells. -/
namespace Go.Proofs.YthambopnmhkeeaaGreat
open Go.RowKit
open Fr (SlW)

theorem put_is {H : Int -> ByteArray} {G : Nat -> ByteArray} {L : List Wr} {b : Nat} (h0 : ∀ x ∈ L, 0 <= x.1 /\ x.2 = H x.1) (h1 : (∀ x ∈ L, x.1 ≠ b) -> G b = H b) : put G L b = H b := by
  unfold put vN
  cases hf : (natW L).reverse.find? (fun x => x.1 == b) with
  | some x =>
    have hx := List.mem_reverse.1 (List.mem_of_find?_eq_some hf)
    have he : x.1 = b := by simpa using List.find?_some hf
    obtain ⟨y, hy, rfl⟩ := List.mem_map.1 hx
    obtain ⟨g0, g1⟩ := h0 y hy
    dsimp only at he ⊢
    rw [g1]; congr 1; omega
  | none =>
    refine h1 fun x hx e => ?_
    rw [List.find?_eq_none] at hf
    have := hf (x.1.toNat, x.2) (List.mem_reverse.2 (List.mem_map.2 ⟨x, hx, rfl⟩))
    simp at this; omega

structure Hm (S SD : Nat -> Prop) (w : World) (h j p n N : Nat) (H : Int -> ByteArray) (sv : Value) (L : List Wr) (J : JS) (D : DevS) (F : List (List Wr)) (G : Nat -> ByteArray) : Prop where
  hh : w.heap[h]? = some (.cells #[.pointer (some ⟨j, 0, none⟩), sv, .slice none 0 0] 99 (0, 0))
  jr : Jr 104 w j p J
  dev : Stands SD w p D
  sl : SlW w sv L
  sd : ∀ k, SD k -> S k
  sh : S h
  sj : S j
  dh : ¬ SD h
  dj : ¬ SD j
  hj : h ≠ j
  vs : ∀ g off n c, sv = .slice (some ⟨g, off, none⟩) n c -> S g /\ ¬ SD g /\ g ≠ h /\ g ≠ j
  lt : ∀ k, S k -> k < w.heap.size
  sy : Sync N n J D G F
  gh : ∀ b : Nat, 62 <= b -> b < n -> G b = H b
  sure : ∀ x ∈ L, 62 <= x.1 /\ x.1 < n /\ x.2 = H x.1
  few : L.length <= 48
  pd : D.pend.length <= 50 * N
  nf : D.fused = false
  nb : N <= 10000
def Home (S : Nat -> Prop) (w : World) (h p n N : Nat) (H : Int -> ByteArray) : Prop := ∃ SD j sv L J D F G, Hm S SD w h j p n N H sv L J D F G

section
variable {S SD : Nat -> Prop} {w w' : World} {h j p n N : Nat} {H : Int -> ByteArray} {sv : Value} {L : List Wr} {J : JS} {D : DevS} {F : List (List Wr)} {G : Nat -> ByteArray}
theorem Hm.kept (m : Hm S SD w h j p n N H sv L J D F G) {T : Nat -> Prop} (ho : Only T w w') (hT : ∀ k, S k -> ¬ T k) : Hm S SD w' h j p n N H sv L J D F G :=
  ⟨by rw [ho.block h (m.lt h m.sh) (hT h m.sh)]; exact m.hh, m.jr.only ho (hT j m.sj), m.dev.kept ho (fun k hk => hT k (m.sd k hk)), SlW.only m.sl ho (fun g off n c hv => hT g (m.vs g off n c hv).1),
    m.sd, m.sh, m.sj, m.dh, m.dj, m.hj, m.vs, fun k hk => Nat.lt_of_lt_of_le (m.lt k hk) ho.size, m.sy, m.gh, m.sure, m.few, m.pd, m.nf, m.nb⟩
theorem Hm.below (m : Hm S SD w h j p n N H sv L J D F G) (hb : Below w.heap.size w w') : Hm S SD w' h j p n N H sv L J D F G :=
  m.kept (Only.of_below (fun _ => False) hb (Nat.le_refl _)) (fun _ _ => id)
theorem Home.kept (m : Home S w h p n N H) {T : Nat -> Prop} (ho : Only T w w') (hT : ∀ k, S k -> ¬ T k) : Home S w' h p n N H := by
  obtain ⟨SD, j, sv, L, J, D, F, G, m⟩ := m; exact ⟨SD, j, sv, L, J, D, F, G, m.kept ho hT⟩
theorem Home.below (m : Home S w h p n N H) (hb : Below w.heap.size w w') : Home S w' h p n N H :=
  m.kept (Only.of_below (fun _ => False) hb (Nat.le_refl _)) (fun _ _ => id)
theorem Home.lt (m : Home S w h p n N H) : ∀ k, S k -> k < w.heap.size := by obtain ⟨_, _, _, _, _, _, _, _, m⟩ := m; exact m.lt
theorem Home.sh (m : Home S w h p n N H) : S h := by obtain ⟨_, _, _, _, _, _, _, _, m⟩ := m; exact m.sh
theorem Hm.c0 (m : Hm S SD w h j p n N H sv L J D F G) : w.cell? ⟨h, 0, none⟩ = some (.pointer (some ⟨j, 0, none⟩)) := by rw [cell_at m.hh]; rfl
theorem Hm.c1 (m : Hm S SD w h j p n N H sv L J D F G) : w.cell? ⟨h, 1, none⟩ = some sv := by rw [cell_at m.hh]; rfl
theorem Hm.c2 (m : Hm S SD w h j p n N H sv L J D F G) : w.cell? ⟨h, 2, none⟩ = some (.slice none 0 0) := by rw [cell_at m.hh]; rfl
theorem Hm.f (m : Hm S SD w h j p n N H sv L J D F G) (i : Nat) : w.frozen? ⟨h, i, none⟩ = false := free_at m.hh i
theorem Hm.hlt (m : Hm S SD w h j p n N H sv L J D F G) : h < w.heap.size := m.lt h m.sh
theorem Hm.pd' (m : Hm S SD w h j p n N H sv L J D F G) : D.pend.length <= 500000 := by have := m.pd; have := m.nb; omega
theorem Hm.live (m : Hm S SD w h j p n N H sv L J D F G) : D.dead = false := m.sy.pre.live
theorem Hm.len (m : Hm S SD w h j p n N H sv L J D F G) : D.disk.length = n := m.sy.pre.len
theorem Hm.n4 (m : Hm S SD w h j p n N H sv L J D F G) : n <= 4096 := m.sy.pre.good.n4
theorem Hm.rd (m : Hm S SD w h j p n N H sv L J D F G) (i : Int) (h1 : 62 <= i) (h2 : i < n) : D.rd i = (H i, 0) := by
  obtain ⟨k, rfl⟩ := Int.eq_ofNat_of_zero_le (show 0 <= i by omega)
  have h3 := DevS.rd_live m.live k (by rw [m.len]; omega)
  rw [m.sy.pre.read k (by omega) (by omega), m.gh k (by omega) (by omega)] at h3
  exact h3
theorem Hm.home (m : Hm S SD w h j p n N H sv L J D F G) : J.home = 62 := by have := m.sy.pre.good.lg; unfold JS.home; omega
end
end Go.Proofs.YthambopnmhkeeaaGreat
/- A cache in plain lists: what each call answers and leaves; nothing of the program is spoken of here. -/
namespace Go.Proofs.YthambopnmhkeeaaGreat.Ca

structure Kp where
  key : Int
  data : ByteArray
  dirty : Bool
  pins : Nat
structure CS where
  L : List Kp
  most : Nat
  misses : Nat

def fx : List Kp -> Int -> Option (Nat × Kp)
  | [], _ => none
  | x :: r, i => if x.key = i then some (0, x) else (fx r i).map fun p => (p.1 + 1, p.2)
def Kp.free (x : Kp) : Bool := !x.dirty && x.pins == 0
def lf : List Kp -> Option Nat
  | [] => none
  | x :: r => match lf r with
    | some k => some (k + 1)
    | none => if x.free then some 0 else none
def room (L : List Kp) (most : Nat) : Option (List Kp) := if L.length < most then some L else (lf L).map fun k => L.eraseIdx k
def CS.get (C : CS) (i : Int) (told : ByteArray) (e : Int) : (ByteArray × Int) × CS :=
  match fx C.L i with
  | some (k, x) => ((x.data, 0), { C with L := x :: C.L.eraseIdx k })
  | none => if e ≠ 0 then ((⟨#[]⟩, e), C) else match room C.L C.most with
    | none => ((⟨#[]⟩, 14), C)
    | some L => ((told, 0), { C with L := ⟨i, told, false, 0⟩ :: L, misses := C.misses + 1 })
def CS.put (C : CS) (i : Int) (s : ByteArray) : Int × CS :=
  if s.size ≠ 256 then (3, C) else match fx C.L i with
  | some (k, x) => (0, { C with L := { x with data := s, dirty := true } :: C.L.eraseIdx k })
  | none => match room C.L C.most with
    | none => (14, C)
    | some L => (0, { C with L := ⟨i, s, true, 0⟩ :: L })
def CS.clean (C : CS) : CS := { C with L := C.L.map fun x => { x with dirty := false } }
def CS.drop (C : CS) : CS := { C with L := C.L.filter fun x => !x.dirty }
def ins (x : Int × ByteArray) : List (Int × ByteArray) -> List (Int × ByteArray)
  | [] => [x]
  | y :: r => if y.1 < x.1 then y :: ins x r else x :: y :: r
def dls (L : List Kp) : List (Int × ByteArray) := (L.filter fun x => x.dirty).map fun x => (x.key, x.data)
def CS.dirty (C : CS) : List (Int × ByteArray) := (dls C.L).foldl (fun o x => ins x o) []
def keys (L : List Kp) : List Int := L.map fun x => x.key

structure CS.Ok (C : CS) : Prop where
  nodup : (keys C.L).Nodup
  len : C.L.length <= C.most
  m0 : 1 <= C.most
  m1 : C.most <= 1024
  ms : C.misses <= 1000000
  wf : ∀ x ∈ C.L, -9223372036854775808 <= x.key /\ x.key <= 9223372036854775807
  ds : ∀ x ∈ C.L, x.data.size <= 1000000
  pn : ∀ x ∈ C.L, x.pins <= 1000000

theorem fx_some {L : List Kp} {i : Int} {k : Nat} {x : Kp} (h : fx L i = some (k, x)) : ∃ hk : k < L.length, L[k] = x /\ x.key = i /\ ∀ j (hj : j < k), (L[j]'(by omega)).key ≠ i := by
  induction L generalizing k with
  | nil => cases h
  | cons y r ih =>
    unfold fx at h
    split at h
    . rename_i e
      simp at h
      obtain ⟨rfl, rfl⟩ := h
      exact ⟨by simp, rfl, e, fun j hj => absurd hj (Nat.not_lt_zero _)⟩
    . rename_i e
      simp only [Option.map_eq_some_iff, Prod.mk.injEq] at h
      obtain ⟨⟨k', x'⟩, h', rfl, rfl⟩ := h
      obtain ⟨hk, h1, h2, h3⟩ := ih h'
      refine ⟨by simpa using hk, by simpa using h1, h2, fun j hj => ?_⟩
      cases j with
      | zero => exact e
      | succ j => simpa using h3 j (by omega)
theorem fx_none {L : List Kp} {i : Int} (h : fx L i = none) : ∀ x ∈ L, x.key ≠ i := by
  induction L with
  | nil => intro x hx; cases hx
  | cons y r ih =>
    unfold fx at h
    split at h
    . cases h
    . rename_i e
      simp only [Option.map_eq_none_iff] at h
      intro x hx
      rcases List.mem_cons.1 hx with rfl | hx
      . exact e
      . exact ih h x hx
theorem fx_mem {L : List Kp} {i : Int} {k : Nat} {x : Kp} (h : fx L i = some (k, x)) : x ∈ L := by
  obtain ⟨hk, h1, _⟩ := fx_some h
  exact h1 ▸ List.getElem_mem hk
theorem fx_of {L : List Kp} (hn : (keys L).Nodup) {k : Nat} (hk : k < L.length) : fx L L[k].key = some (k, L[k]) := by
  induction L generalizing k with
  | nil => cases hk
  | cons y r ih =>
    obtain ⟨h1, h2⟩ := List.nodup_cons.1 (show (y.key :: keys r).Nodup from hn)
    cases k with
    | zero => unfold fx; simp
    | succ j =>
      have hj : j < r.length := by simpa using hk
      have hne : y.key ≠ r[j].key := fun e => h1 (by rw [e]; exact List.mem_map.2 ⟨_, List.getElem_mem hj, rfl⟩)
      unfold fx
      simp only [List.getElem_cons_succ]
      rw [if_neg hne, ih h2 hj]
      rfl
theorem idx_key {L : List Kp} {i : Int} {k : Nat} {x : Kp} (h : fx L i = some (k, x)) : (keys L).idxOf i = k := by
  induction L generalizing k with
  | nil => cases h
  | cons y r ih =>
    unfold fx at h
    unfold keys
    rw [List.map_cons, List.idxOf_cons]
    split at h
    . rename_i e
      simp at h
      obtain ⟨rfl, rfl⟩ := h
      simp [e]
    . rename_i e
      simp only [Option.map_eq_some_iff, Prod.mk.injEq] at h
      obtain ⟨⟨k', x'⟩, h', rfl, rfl⟩ := h
      have := ih h'
      unfold keys at this
      have e' : (y.key == i) = false := beq_eq_false_iff_ne.2 e
      rw [e']; simp [this]
theorem fx_none_iff {L : List Kp} {i : Int} : fx L i = none ↔ i ∉ keys L := by
  constructor
  . intro h hm
    obtain ⟨x, hx, e⟩ := List.mem_map.1 hm
    exact fx_none h x hx e
  . intro h
    cases hf : fx L i with
    | none => rfl
    | some p =>
      obtain ⟨k, x⟩ := p
      obtain ⟨hk, h1, h2, _⟩ := fx_some hf
      exact absurd (List.mem_map.2 ⟨x, fx_mem hf, h2⟩) h

theorem lf_some {L : List Kp} {k : Nat} (h : lf L = some k) : ∃ hk : k < L.length, L[k].free = true /\ ∀ j (hj : j < L.length), k < j -> L[j].free = false := by
  induction L generalizing k with
  | nil => cases h
  | cons y r ih =>
    unfold lf at h
    cases hr : lf r with
    | some m =>
      rw [hr] at h
      simp at h
      subst h
      obtain ⟨hk, h1, h2⟩ := ih hr
      refine ⟨by simpa using hk, by simpa using h1, fun j hj hm => ?_⟩
      cases j with
      | zero => omega
      | succ j => simpa using h2 j (by simpa using hj) (by omega)
    | none =>
      rw [hr] at h
      simp only [Option.ite_none_right_eq_some, Option.some.injEq] at h
      obtain ⟨h, rfl⟩ := h
      refine ⟨by simp, h, fun j hj hm => ?_⟩
      cases j with
      | zero => omega
      | succ j =>
        have hj' : j < r.length := by simpa using hj
        have : ∀ (s : List Kp), lf s = none -> ∀ x ∈ s, x.free = false := by
          intro s
          induction s with
          | nil => intro _ x hx; cases hx
          | cons z t iht =>
            intro hs x hx
            unfold lf at hs
            cases ht : lf t with
            | some m => rw [ht] at hs; cases hs
            | none =>
              rw [ht] at hs
              simp only at hs
              rcases List.mem_cons.1 hx with rfl | hx
              . cases hf : x.free
                . rfl
                . rw [hf] at hs; simp at hs
              . exact iht ht x hx
        simpa using this r hr _ (List.getElem_mem hj')
theorem lf_none {L : List Kp} (h : lf L = none) : ∀ x ∈ L, x.free = false := by
  induction L with
  | nil => intro x hx; cases hx
  | cons y r ih =>
    intro x hx
    unfold lf at h
    cases ht : lf r with
    | some m => rw [ht] at h; cases h
    | none =>
      rw [ht] at h
      simp only at h
      rcases List.mem_cons.1 hx with rfl | hx
      . cases hf : x.free
        . rfl
        . rw [hf] at h; simp at h
      . exact ih ht x hx
theorem lf_is {L : List Kp} {k : Nat} (hk : k < L.length) (h1 : L[k].free = true) (h2 : ∀ j (hj : j < L.length), k < j -> L[j].free = false) : lf L = some k := by
  cases h : lf L with
  | none => have := lf_none h _ (List.getElem_mem hk); rw [this] at h1; cases h1
  | some m =>
    obtain ⟨hm, g1, g2⟩ := lf_some h
    rcases Nat.lt_trichotomy m k with hlt | rfl | hlt
    . have := g2 k hk hlt; rw [this] at h1; cases h1
    . rfl
    . have := h2 m hm hlt; rw [this] at g1; cases g1
theorem lf_is_none {L : List Kp} (h : ∀ j (hj : j < L.length), L[j].free = false) : lf L = none := by
  cases hl : lf L with
  | none => rfl
  | some m => obtain ⟨hm, g1, _⟩ := lf_some hl; rw [h m hm] at g1; cases g1

theorem keys_erase (L : List Kp) (k : Nat) : keys (L.eraseIdx k) = (keys L).eraseIdx k := by
  unfold keys
  induction L generalizing k with
  | nil => rfl
  | cons y r ih => cases k with
    | zero => rfl
    | succ j => simp [ih]
theorem perm_front {α : Type} {L : List α} {k : Nat} (hk : k < L.length) : (L[k] :: L.eraseIdx k).Perm L := by
  induction L generalizing k with
  | nil => cases hk
  | cons y r ih =>
    cases k with
    | zero => exact List.Perm.refl _
    | succ j =>
      have hj : j < r.length := by simpa using hk
      simp only [List.getElem_cons_succ, List.eraseIdx_cons_succ]
      exact (List.Perm.swap _ _ _).trans ((ih hj).cons _)
theorem nodup_erase {L : List Kp} (h : (keys L).Nodup) (k : Nat) : (keys (L.eraseIdx k)).Nodup := by
  rw [keys_erase]; exact h.sublist (List.eraseIdx_sublist _ _)
theorem mem_erase {L : List Kp} {k : Nat} {x : Kp} (h : x ∈ L.eraseIdx k) : x ∈ L := (List.eraseIdx_sublist _ _).subset h
theorem keys_set {L : List Kp} {k : Nat} (hk : k < L.length) {y : Kp} (h : y.key = L[k].key) : keys (L.set k y) = keys L := by
  unfold keys
  rw [List.map_set, h]
  have : (L.map fun x => x.key)[k]'(by simpa using hk) = L[k].key := by simp
  rw [<- this, List.set_getElem_self]
theorem not_mem_erase {L : List Kp} (hn : (keys L).Nodup) {i : Int} {k : Nat} {x : Kp} (h : fx L i = some (k, x)) : i ∉ keys (L.eraseIdx k) := by
  obtain ⟨hk, h1, h2, _⟩ := fx_some h
  have hp : (keys (L[k] :: L.eraseIdx k)).Nodup := ((perm_front hk).map _).nodup_iff.2 hn
  have := (List.nodup_cons.1 (show (L[k].key :: keys (L.eraseIdx k)).Nodup from hp)).1
  rwa [h1, h2] at this

theorem room_len {L M : List Kp} {most : Nat} (hm : 1 <= most) (hl : L.length <= most) (h : room L most = some M) : M.length < most := by
  unfold room at h
  split at h
  . cases h; assumption
  . simp only [Option.map_eq_some_iff] at h
    obtain ⟨k, hk, rfl⟩ := h
    obtain ⟨hk, _⟩ := lf_some hk
    rw [List.length_eraseIdx]
    split <;> omega
theorem room_sub {L M : List Kp} {most : Nat} (h : room L most = some M) : M.Sublist L := by
  unfold room at h
  split at h
  . cases h; exact List.Sublist.refl _
  . simp only [Option.map_eq_some_iff] at h
    obtain ⟨k, hk, rfl⟩ := h
    exact List.eraseIdx_sublist _ _

section
variable {C : CS}
theorem CS.Ok.front (ok : C.Ok) {i : Int} {k : Nat} {x : Kp} (h : fx C.L i = some (k, x)) {y : Kp} (hy : y.key = x.key) (hd : y.data.size <= 1000000) (hp : y.pins <= 1000000) : ({ C with L := y :: C.L.eraseIdx k } : CS).Ok := by
  obtain ⟨hk, h1, h2, _⟩ := fx_some h
  have hm := fx_mem h
  refine ⟨?_, ?_, ok.m0, ok.m1, ok.ms, ?_, ?_, ?_⟩
  . show (y.key :: keys (C.L.eraseIdx k)).Nodup
    rw [hy, h2]
    exact List.nodup_cons.2 ⟨not_mem_erase ok.nodup h, nodup_erase ok.nodup k⟩
  . show (y :: C.L.eraseIdx k).length <= C.most
    have := ok.len
    rw [List.length_cons, List.length_eraseIdx]
    split <;> omega
  . intro z hz
    rcases List.mem_cons.1 hz with rfl | hz
    . rw [hy]; exact ok.wf x hm
    . exact ok.wf z (mem_erase hz)
  . intro z hz
    rcases List.mem_cons.1 hz with rfl | hz
    . exact hd
    . exact ok.ds z (mem_erase hz)
  . intro z hz
    rcases List.mem_cons.1 hz with rfl | hz
    . exact hp
    . exact ok.pn z (mem_erase hz)
theorem CS.Ok.fresh (ok : C.Ok) {i : Int} (hi : -9223372036854775808 <= i /\ i <= 9223372036854775807) (h : fx C.L i = none) {M : List Kp} (hr : room C.L C.most = some M) {s : ByteArray} (hs : s.size <= 1000000) (d : Bool) {m : Nat} (hm : m <= 1000000) :
    ({ C with L := ⟨i, s, d, 0⟩ :: M, misses := m } : CS).Ok := by
  have hsub := room_sub hr
  refine ⟨?_, ?_, ok.m0, ok.m1, hm, ?_, ?_, ?_⟩
  . show (i :: keys M).Nodup
    exact List.nodup_cons.2 ⟨fun hm => fx_none_iff.1 h ((hsub.map _).subset hm), ok.nodup.sublist (hsub.map _)⟩
  . show (_ :: M).length <= C.most
    have := room_len ok.m0 ok.len hr
    simp only [List.length_cons]; omega
  . intro z hz
    rcases List.mem_cons.1 hz with rfl | hz
    . exact hi
    . exact ok.wf z (hsub.subset hz)
  . intro z hz
    rcases List.mem_cons.1 hz with rfl | hz
    . exact hs
    . exact ok.ds z (hsub.subset hz)
  . intro z hz
    rcases List.mem_cons.1 hz with rfl | hz
    . exact Nat.zero_le _
    . exact ok.pn z (hsub.subset hz)
theorem CS.Ok.set (ok : C.Ok) {i : Int} {k : Nat} {x : Kp} (h : fx C.L i = some (k, x)) {y : Kp} (hy : y.key = x.key) (hd : y.data.size <= 1000000) (hp : y.pins <= 1000000) : ({ C with L := C.L.set k y } : CS).Ok := by
  obtain ⟨hk, h1, h2, _⟩ := fx_some h
  have hm := fx_mem h
  refine ⟨?_, by simpa using ok.len, ok.m0, ok.m1, ok.ms, ?_, ?_, ?_⟩
  . show (keys (C.L.set k y)).Nodup
    rw [keys_set hk (by rw [hy, h1])]; exact ok.nodup
  . intro z hz
    rcases List.mem_or_eq_of_mem_set hz with hz | rfl
    . exact ok.wf z hz
    . rw [hy]; exact ok.wf x hm
  . intro z hz
    rcases List.mem_or_eq_of_mem_set hz with hz | rfl
    . exact ok.ds z hz
    . exact hd
  . intro z hz
    rcases List.mem_or_eq_of_mem_set hz with hz | rfl
    . exact ok.pn z hz
    . exact hp
theorem CS.Ok.clean (ok : C.Ok) : C.clean.Ok := by
  have e : keys C.clean.L = keys C.L := by unfold keys CS.clean; simp [Function.comp_def]
  refine ⟨e ▸ ok.nodup, by simpa [CS.clean] using ok.len, ok.m0, ok.m1, ok.ms, ?_, ?_, ?_⟩ <;>
  . intro z hz
    obtain ⟨x, hx, rfl⟩ := List.mem_map.1 hz
    first | exact ok.wf x hx | exact ok.ds x hx | exact ok.pn x hx
theorem CS.Ok.drop (ok : C.Ok) : C.drop.Ok := by
  have hs : C.drop.L.Sublist C.L := List.filter_sublist
  exact ⟨ok.nodup.sublist (hs.map _), Nat.le_trans hs.length_le ok.len, ok.m0, ok.m1, ok.ms, fun z hz => ok.wf z (hs.subset hz), fun z hz => ok.ds z (hs.subset hz), fun z hz => ok.pn z (hs.subset hz)⟩
end

theorem ins_perm (x : Int × ByteArray) (l : List (Int × ByteArray)) : (ins x l).Perm (x :: l) := by
  induction l with
  | nil => exact List.Perm.refl _
  | cons y r ih =>
    unfold ins
    split
    . exact (ih.cons y).trans (List.Perm.swap _ _ _)
    . exact List.Perm.refl _
theorem fold_perm (l o : List (Int × ByteArray)) : (l.foldl (fun o x => ins x o) o).Perm (l ++ o) := by
  induction l generalizing o with
  | nil => exact List.Perm.refl _
  | cons x r ih =>
    rw [List.foldl_cons]
    refine (ih _).trans (((ins_perm x o).append_left r).trans ?_)
    exact List.perm_middle
def Rise (l : List (Int × ByteArray)) : Prop := l.Pairwise fun a b => a.1 < b.1
theorem ins_rise (x : Int × ByteArray) (l : List (Int × ByteArray)) (h : Rise l) (hx : ∀ y ∈ l, y.1 ≠ x.1) : Rise (ins x l) := by
  induction l with
  | nil => exact List.pairwise_singleton _ _
  | cons y r ih =>
    obtain ⟨h1, h2⟩ := List.pairwise_cons.1 h
    unfold ins
    split
    . rename_i hlt
      refine List.pairwise_cons.2 ⟨fun z hz => ?_, ih h2 (fun z hz => hx z (by simp [hz]))⟩
      rcases List.mem_cons.1 ((ins_perm x r).mem_iff.1 hz) with rfl | hz
      . exact hlt
      . exact h1 z hz
    . rename_i hge
      have hy : x.1 < y.1 := by have := hx y (by simp); omega
      refine List.pairwise_cons.2 ⟨fun z hz => ?_, h⟩
      rcases List.mem_cons.1 hz with rfl | hz
      . exact hy
      . have := h1 z hz; omega
theorem fold_rise (l o : List (Int × ByteArray)) (ho : Rise o) (hn : ((l ++ o).map fun x => x.1).Nodup) : Rise (l.foldl (fun o x => ins x o) o) := by
  induction l generalizing o with
  | nil => exact ho
  | cons x r ih =>
    rw [List.foldl_cons]
    have hp : (r ++ ins x o).Perm ((x :: r) ++ o) := ((ins_perm x o).append_left r).trans List.perm_middle
    refine ih _ (ins_rise x o ho fun y hy e => ?_) ((hp.map _).nodup_iff.2 hn)
    have h1 : x.1 ∉ (r ++ o).map fun x => x.1 := (List.nodup_cons.1 (show (x.1 :: (r ++ o).map fun x => x.1).Nodup from hn)).1
    exact h1 (List.mem_map.2 ⟨y, List.mem_append.2 (.inr hy), e⟩)
theorem dls_nodup {L : List Kp} (h : (keys L).Nodup) : ((dls L).map fun x => x.1).Nodup := by
  unfold dls
  rw [List.map_map]
  exact (h.sublist ((List.filter_sublist (p := fun x : Kp => x.dirty) (l := L)).map _))
theorem CS.dirty_perm (C : CS) : C.dirty.Perm (dls C.L) := by have := fold_perm (dls C.L) []; rw [List.append_nil] at this; exact this
theorem CS.dirty_rise {C : CS} (h : (keys C.L).Nodup) : Rise C.dirty := fold_rise _ [] List.Pairwise.nil (by simpa using dls_nodup h)
theorem rise_eq {l m : List (Int × ByteArray)} (hp : l.Perm m) (hl : Rise l) (hm : Rise m) : l = m :=
  hp.eq_of_pairwise (fun a b _ _ h1 h2 => by omega) hl hm
end Go.Proofs.YthambopnmhkeeaaGreat.Ca
/- A store's cache in plain lists: what it keeps of the blocks that are told (t) and touched (d): what is told does not depend on what is kept; nothing of the program is spoken of here. -/
namespace Go.Proofs.YthambopnmhkeeaaGreat.Ca

structure Kc (C : CS) (t : Int -> ByteArray) (d : Int -> Bool) : Prop where
  ok : C.Ok
  data : ∀ x ∈ C.L, x.data = t x.key /\ x.dirty = d x.key /\ x.pins = 0
  all : ∀ i, d i = true -> i ∈ keys C.L
def CS.nd (C : CS) : Nat := C.L.countP (·.dirty)
theorem nd_dirty (C : CS) : C.dirty.length = C.nd := by
  rw [C.dirty_perm.length_eq]
  unfold dls CS.nd
  rw [List.length_map, List.countP_eq_length_filter]

theorem Kc.of_key {C : CS} {t : Int -> ByteArray} {d : Int -> Bool} (h : Kc C t d) {i : Int} {k : Nat} {x : Kp} (hf : fx C.L i = some (k, x)) : x.key = i /\ x.data = t i /\ x.dirty = d i /\ x.pins = 0 := by
  obtain ⟨_, _, hk, _⟩ := fx_some hf
  obtain ⟨h1, h2, h3⟩ := h.data x (fx_mem hf)
  rw [hk] at h1 h2
  exact ⟨hk, h1, h2, h3⟩
theorem Kc.room {C : CS} {t : Int -> ByteArray} {d : Int -> Bool} (h : Kc C t d) (hn : C.nd < C.most) : ∃ M, room C.L C.most = some M /\ M.Sublist C.L /\ M.countP (·.dirty) = C.nd := by
  unfold Go.Proofs.YthambopnmhkeeaaGreat.Ca.room
  by_cases hl : C.L.length < C.most
  . rw [if_pos hl]
    exact ⟨C.L, rfl, List.Sublist.refl _, rfl⟩
  . rw [if_neg hl]
    cases hf : lf C.L with
    | none =>
      have hall : ∀ x ∈ C.L, x.dirty = true := fun x hx => by
        have h1 := lf_none hf x hx
        obtain ⟨_, _, h2⟩ := h.data x hx
        unfold Kp.free at h1
        rw [h2] at h1
        cases hd : x.dirty with
        | true => rfl
        | false => rw [hd] at h1; cases h1
      have : C.nd = C.L.length := List.countP_eq_length.2 hall
      omega
    | some k =>
      refine ⟨C.L.eraseIdx k, rfl, List.eraseIdx_sublist _ _, ?_⟩
      obtain ⟨hk, h1, _⟩ := lf_some hf
      have hd : C.L[k].dirty = false := by
        unfold Kp.free at h1
        cases hd : C.L[k].dirty with
        | false => rfl
        | true => rw [hd] at h1; cases h1
      have hp := (perm_front hk).countP_eq (·.dirty)
      rw [List.countP_cons_of_neg (by rw [hd]; simp)] at hp
      exact hp
theorem room_touched {L M : List Kp} {most : Nat} (h : room L most = some M) {x : Kp} (hx : x ∈ L) (hd : x.dirty = true) : x ∈ M := by
  unfold room at h
  split at h
  . cases h; exact hx
  . simp only [Option.map_eq_some_iff] at h
    obtain ⟨k, hk, rfl⟩ := h
    obtain ⟨hk, h1, _⟩ := lf_some hk
    rcases List.mem_cons.1 ((perm_front hk).mem_iff.2 hx) with e | e
    . unfold Kp.free at h1
      rw [<- e, hd] at h1
      cases h1
    . exact e

section
variable {C : CS} {t : Int -> ByteArray} {d : Int -> Bool}
theorem Kc.get (h : Kc C t d) (i : Int) (hi : -9223372036854775808 <= i /\ i <= 9223372036854775807) (hn : C.nd < C.most) (hm : C.misses < 1000000) (ht : (t i).size <= 1000000) (H : ByteArray) (hH : d i = false -> H = t i) :
    (C.get i H 0).1 = (t i, 0) /\ Kc (C.get i H 0).2 t d /\ (C.get i H 0).2.nd = C.nd /\ (C.get i H 0).2.most = C.most /\ (C.get i H 0).2.misses <= C.misses + 1 := by
  unfold CS.get
  cases hf : fx C.L i with
  | some p =>
    obtain ⟨k, x⟩ := p
    obtain ⟨e1, e2, e3, e4⟩ := h.of_key hf
    obtain ⟨hk, g1, _, _⟩ := fx_some hf
    have hp := perm_front hk
    rw [g1] at hp
    dsimp only
    refine ⟨by rw [e2], ⟨h.ok.front hf rfl (h.ok.ds x (fx_mem hf)) (h.ok.pn x (fx_mem hf)), fun y hy => h.data y (hp.mem_iff.1 hy), fun j hj => ((hp.map (·.key)).mem_iff).2 (h.all j hj)⟩, hp.countP_eq _, rfl, by omega⟩
  | none =>
    obtain ⟨M, hr, hs, hc⟩ := h.room hn
    have hd : d i = false := by
      cases hd : d i with
      | false => rfl
      | true => exact absurd (h.all i hd) (fx_none_iff.1 hf)
    dsimp only
    rw [if_neg (by simp), hr]
    dsimp only
    rw [hH hd]
    refine ⟨rfl, ⟨h.ok.fresh hi hf hr ht false (by omega), fun y hy => ?_, fun j hj => ?_⟩, ?_, rfl, Nat.le_refl _⟩
    . rcases List.mem_cons.1 hy with rfl | hy
      . exact ⟨rfl, hd.symm, rfl⟩
      . exact h.data y (hs.subset hy)
    . obtain ⟨y, hy, rfl⟩ := List.mem_map.1 (h.all j hj)
      have := h.data y hy
      exact List.mem_map.2 ⟨y, List.mem_cons_of_mem _ (room_touched hr hy (by rw [this.2.1]; exact hj)), rfl⟩
    . show List.countP _ (_ :: M) = _
      rw [List.countP_cons_of_neg (by simp)]
      exact hc
theorem Kc.put (h : Kc C t d) (i : Int) (hi : -9223372036854775808 <= i /\ i <= 9223372036854775807) (hn : C.nd < C.most) (s : ByteArray) (hs : s.size = 256) :
    (C.put i s).1 = 0 /\ Kc (C.put i s).2 (fun j => if j = i then s else t j) (fun j => if j = i then true else d j) /\ (C.put i s).2.nd = (if d i = true then C.nd else C.nd + 1) /\ (C.put i s).2.most = C.most /\ (C.put i s).2.misses = C.misses := by
  unfold CS.put
  rw [if_neg (by omega)]
  cases hf : fx C.L i with
  | some p =>
    obtain ⟨k, x⟩ := p
    obtain ⟨e1, e2, e3, e4⟩ := h.of_key hf
    obtain ⟨hk, g1, _, _⟩ := fx_some hf
    have hp := perm_front hk
    rw [g1] at hp
    have hne : ∀ y ∈ C.L.eraseIdx k, y.key ≠ i := fun y hy e => not_mem_erase h.ok.nodup hf (e ▸ List.mem_map.2 ⟨y, hy, rfl⟩)
    dsimp only
    refine ⟨rfl, ⟨h.ok.front hf rfl (by dsimp; omega) (by dsimp; omega), fun y hy => ?_, fun j hj => ?_⟩, ?_, rfl, rfl⟩
    . rcases List.mem_cons.1 hy with rfl | hy
      . dsimp only
        rw [e1, if_pos rfl, if_pos rfl]
        exact ⟨rfl, rfl, e4⟩
      . rw [if_neg (hne y hy), if_neg (hne y hy)]
        exact h.data y (mem_erase hy)
    . by_cases e : j = i
      . exact List.mem_map.2 ⟨_, List.mem_cons_self, by dsimp only; rw [e1, e]⟩
      . rw [if_neg e] at hj
        obtain ⟨y, hy, rfl⟩ := List.mem_map.1 (h.all j hj)
        rcases List.mem_cons.1 (hp.mem_iff.2 hy) with rfl | hy
        . exact absurd e1 e
        . exact List.mem_map.2 ⟨y, List.mem_cons_of_mem _ hy, rfl⟩
    . have hc := hp.countP_eq (·.dirty)
      show List.countP _ (_ :: _) = _
      rw [List.countP_cons_of_pos (by rfl)]
      unfold CS.nd
      rw [<- hc, <- e3]
      cases hx : x.dirty with
      | true => rw [List.countP_cons_of_pos (by exact hx)]; simp
      | false => rw [List.countP_cons_of_neg (by rw [hx]; simp)]; simp
  | none =>
    obtain ⟨M, hr, hsb, hc⟩ := h.room hn
    have hni := fx_none_iff.1 hf
    have hd : d i = false := by
      cases hd : d i with
      | false => rfl
      | true => exact absurd (h.all i hd) hni
    have hne : ∀ y ∈ M, y.key ≠ i := fun y hy e => hni (e ▸ List.mem_map.2 ⟨y, hsb.subset hy, rfl⟩)
    dsimp only
    rw [hr]
    dsimp only
    refine ⟨rfl, ⟨h.ok.fresh hi hf hr (by omega) true h.ok.ms, fun y hy => ?_, fun j hj => ?_⟩, ?_, rfl, rfl⟩
    . rcases List.mem_cons.1 hy with rfl | hy
      . dsimp only
        rw [if_pos rfl, if_pos rfl]
        exact ⟨rfl, rfl, rfl⟩
      . rw [if_neg (hne y hy), if_neg (hne y hy)]
        exact h.data y (hsb.subset hy)
    . by_cases e : j = i
      . exact List.mem_map.2 ⟨_, List.mem_cons_self, e.symm⟩
      . rw [if_neg e] at hj
        obtain ⟨y, hy, rfl⟩ := List.mem_map.1 (h.all j hj)
        have := h.data y hy
        exact List.mem_map.2 ⟨y, List.mem_cons_of_mem _ (room_touched hr hy (by rw [this.2.1]; exact hj)), rfl⟩
    . show List.countP _ (_ :: M) = _
      rw [List.countP_cons_of_pos (by rfl), hd, hc]
      simp
theorem Kc.clean (h : Kc C t d) : Kc C.clean t (fun _ => false) /\ C.clean.nd = 0 /\ C.clean.most = C.most /\ C.clean.misses = C.misses := by
  refine ⟨⟨h.ok.clean, fun y hy => ?_, fun j hj => by cases hj⟩, ?_, rfl, rfl⟩
  . obtain ⟨x, hx, rfl⟩ := List.mem_map.1 hy
    obtain ⟨h1, _, h3⟩ := h.data x hx
    exact ⟨h1, rfl, h3⟩
  . unfold CS.nd CS.clean
    rw [List.countP_map]
    exact List.countP_eq_zero.2 fun x _ => by simp
theorem Kc.drop (h : Kc C t d) (H : Int -> ByteArray) (hH : ∀ i, d i = false -> H i = t i) : Kc C.drop H (fun _ => false) /\ C.drop.nd = 0 /\ C.drop.most = C.most /\ C.drop.misses = C.misses := by
  refine ⟨⟨h.ok.drop, fun y hy => ?_, fun j hj => by cases hj⟩, ?_, rfl, rfl⟩
  . obtain ⟨hy1, hy2⟩ := List.mem_filter.1 hy
    obtain ⟨h1, h2, h3⟩ := h.data y hy1
    have hd : y.dirty = false := by simpa using hy2
    exact ⟨by rw [h1, hH _ (by rw [<- h2]; exact hd)], hd, h3⟩
  . exact List.countP_eq_zero.2 fun x hx => by
      have := (List.mem_filter.1 hx).2
      simpa using this
theorem Kc.dirty (h : Kc C t d) : Rise C.dirty /\ ∀ x, x ∈ C.dirty ↔ d x.1 = true /\ x.2 = t x.1 := by
  refine ⟨C.dirty_rise h.ok.nodup, fun x => ?_⟩
  rw [C.dirty_perm.mem_iff]
  unfold dls
  constructor
  . intro hx
    obtain ⟨y, hy, rfl⟩ := List.mem_map.1 hx
    obtain ⟨hy1, hy2⟩ := List.mem_filter.1 hy
    obtain ⟨h1, h2, _⟩ := h.data y hy1
    exact ⟨by rw [<- h2]; exact hy2, h1⟩
  . rintro ⟨h1, h2⟩
    obtain ⟨y, hy, e⟩ := List.mem_map.1 (h.all x.1 h1)
    obtain ⟨g1, g2, _⟩ := h.data y hy
    refine List.mem_map.2 ⟨y, List.mem_filter.2 ⟨hy, by rw [g2, e]; exact h1⟩, ?_⟩
    exact Prod.ext e (by dsimp only; rw [g1, e, h2])
theorem Kc.count (h : Kc C t d) (n : Nat) (hd : ∀ i, d i = true -> 0 <= i /\ i < n) : C.nd = (List.range n).countP fun i : Nat => d (i : Int) := by
  obtain ⟨hr, hm⟩ := h.dirty
  rw [<- nd_dirty, List.countP_eq_length_filter]
  have hp : (C.dirty.map fun x => x.1).Perm (((List.range n).filter fun i : Nat => d (i : Int)).map fun i : Nat => (i : Int)) := by
    refine (List.perm_ext_iff_of_nodup ?_ ?_).2 fun i => ?_
    . refine (List.pairwise_map.2 ?_)
      exact hr.imp fun h => by omega
    . refine List.pairwise_map.2 ?_
      exact (List.nodup_range.sublist List.filter_sublist).imp fun h => by omega
    . constructor
      . intro hi
        obtain ⟨x, hx, rfl⟩ := List.mem_map.1 hi
        have h1 := ((hm x).1 hx).1
        obtain ⟨g1, g2⟩ := hd _ h1
        refine List.mem_map.2 ⟨x.1.toNat, List.mem_filter.2 ⟨List.mem_range.2 (by omega), ?_⟩, by omega⟩
        rw [show ((x.1.toNat : Nat) : Int) = x.1 by omega]; exact h1
      . intro hi
        obtain ⟨k, hk, rfl⟩ := List.mem_map.1 hi
        have h1 := (List.mem_filter.1 hk).2
        exact List.mem_map.2 ⟨((k : Int), t k), (hm _).2 ⟨h1, rfl⟩, rfl⟩
  have := hp.length_eq
  rw [List.length_map, List.length_map] at this
  exact this
theorem Kc.new (m : Nat) (h1 : 1 <= m) (h2 : m <= 1024) (t : Int -> ByteArray) : Kc ⟨[], m, 0⟩ t (fun _ => false) /\ CS.nd ⟨[], m, 0⟩ = 0 :=
  ⟨⟨⟨by simp [keys], by simp, h1, h2, by simp, by simp, by simp, by simp⟩, by simp, by simp⟩, rfl⟩
end
end Go.Proofs.YthambopnmhkeeaaGreat.Ca
/- Rows of bits in plain lists: what a bit is, what is turned, what is free, runs, what fits; nothing of the program is walked here. -/
namespace Go.Proofs.YthambopnmhkeeaaGreat.Bm

def bt (l : List UInt8) (i : Nat) : Bool := (l.getD (i / 8) 0).toNat.testBit (i % 8)
def gb (l : List UInt8) (i : Int) : Bool := decide (0 <= i) && bt l i.toNat
def vb (i : Nat) : Nat := 2 ^ (i % 8)
def fi (k : Nat) (n : Int) : Nat := (min n (8 * (k : Int))).toNat
def byte1 (b : UInt8) (r : Nat) (on : Bool) : UInt8 := if on then b ||| UInt8.ofNat (2 ^ r) else b &&& ~~~ (UInt8.ofNat (2 ^ r))
def set1 (l : List UInt8) (i : Nat) (on : Bool) : List UInt8 := l.set (i / 8) (byte1 (l.getD (i / 8) 0) (i % 8) on)
def stL (l : List UInt8) (a : Nat) (on : Bool) : Nat -> List UInt8
  | 0 => l
  | c + 1 => set1 (stL l a on c) (a + c) on
def fr (l : List UInt8) : Nat -> Nat
  | 0 => 0
  | m + 1 => fr l m + if bt l m = true then 0 else 1

theorem gb_nat (l : List UInt8) (i : Nat) : gb l (i : Int) = bt l i := by simp [gb]
theorem gb_neg (l : List UInt8) (i : Int) (h : i < 0) : gb l i = false := by simp [gb]; omega
theorem bt_out (l : List UInt8) (i : Nat) (h : 8 * l.length <= i) : bt l i = false := by
  unfold bt
  rw [show l.getD (i / 8) 0 = 0 by simp [List.getD, List.getElem?_eq_none (show l.length <= i / 8 by omega)]]
  simp
theorem fi_le (k : Nat) (n : Int) : fi k n <= 8 * k := by unfold fi; omega
theorem byte1_bits_all : ∀ b : Fin 256, ∀ r : Fin 8, ∀ k : Fin 8, ∀ on : Bool, (byte1 (UInt8.ofNat b.1) r.1 on).toNat.testBit k.1 = if k.1 = r.1 then on else b.1.testBit k.1 := by decide +kernel
theorem byte1_bits (b : UInt8) (r k : Nat) (on : Bool) (hr : r < 8) (hk : k < 8) : (byte1 b r on).toNat.testBit k = if k = r then on else b.toNat.testBit k := by
  have := byte1_bits_all ⟨b.toNat, b.toNat_lt⟩ ⟨r, hr⟩ ⟨k, hk⟩ on
  simpa using this
theorem byte1_xor_all : ∀ b : Fin 256, ∀ r : Fin 8, ∀ on : Bool, byte1 (UInt8.ofNat b.1) r.1 on = if b.1.testBit r.1 = on then UInt8.ofNat b.1 else UInt8.ofNat b.1 ^^^ UInt8.ofNat (2 ^ r.1) := by decide +kernel
theorem byte1_xor (b : UInt8) (r : Nat) (on : Bool) (hr : r < 8) : byte1 b r on = if b.toNat.testBit r = on then b else b ^^^ UInt8.ofNat (2 ^ r) := by
  have := byte1_xor_all ⟨b.toNat, b.toNat_lt⟩ ⟨r, hr⟩ on
  simpa using this
theorem byte_eq {a b : UInt8} (h : ∀ k, k < 8 -> a.toNat.testBit k = b.toNat.testBit k) : a = b := by
  apply UInt8.toNat_inj.1
  apply Nat.eq_of_testBit_eq
  intro k
  by_cases hk : k < 8
  . exact h k hk
  . have hp : 2 ^ 8 <= 2 ^ k := Nat.pow_le_pow_right (by omega) (by omega)
    rw [Nat.testBit_lt_two_pow (Nat.lt_of_lt_of_le a.toNat_lt hp), Nat.testBit_lt_two_pow (Nat.lt_of_lt_of_le b.toNat_lt hp)]
theorem bt_ext {l m : List UInt8} (hl : l.length = m.length) (h : ∀ i, i < 8 * l.length -> bt l i = bt m i) : l = m := by
  apply List.ext_getElem hl
  intro q h1 h2
  apply byte_eq
  intro k hk
  have := h (8 * q + k) (by omega)
  unfold bt at this
  rw [show (8 * q + k) / 8 = q by omega, show (8 * q + k) % 8 = k by omega] at this
  simpa [List.getD, h1, h2] using this
theorem set1_length (l : List UInt8) (i : Nat) (on : Bool) : (set1 l i on).length = l.length := by simp [set1]
theorem bt_set1 (l : List UInt8) (i k : Nat) (on : Bool) (hi : i < 8 * l.length) : bt (set1 l i on) k = if k = i then on else bt l k := by
  unfold bt set1
  by_cases e : k / 8 = i / 8
  . have h1 : (l.set (i / 8) (byte1 (l.getD (i / 8) 0) (i % 8) on)).getD (k / 8) 0 = byte1 (l.getD (i / 8) 0) (i % 8) on := by
      rw [e]; simp [List.getD, show i / 8 < l.length by omega]
    rw [h1, byte1_bits _ _ _ _ (by omega) (by omega), e]
    by_cases e2 : k = i
    . subst e2; simp
    . rw [if_neg (by omega), if_neg e2]
  . rw [if_neg (by omega)]
    congr 1
    simp [List.getD, List.getElem?_set_ne (Ne.symm e)]
theorem stL_length (l : List UInt8) (a c : Nat) (on : Bool) : (stL l a on c).length = l.length := by
  induction c with
  | zero => rfl
  | succ c ih => simp [stL, set1_length, ih]
theorem bt_stL (l : List UInt8) (a c k : Nat) (on : Bool) (h : a + c <= 8 * l.length) : bt (stL l a on c) k = if a <= k /\ k < a + c then on else bt l k := by
  induction c with
  | zero => rw [if_neg (by omega)]; rfl
  | succ c ih =>
    rw [stL, bt_set1 _ _ _ _ (by rw [stL_length]; omega), ih (by omega)]
    by_cases e : k = a + c
    . rw [if_pos e, if_pos (by omega)]
    . rw [if_neg e]
      by_cases e2 : a <= k /\ k < a + c
      . rw [if_pos e2, if_pos (by omega)]
      . rw [if_neg e2, if_neg (by omega)]
theorem fr_le (l : List UInt8) (m : Nat) : fr l m <= m := by
  induction m with
  | zero => exact Nat.le_refl _
  | succ m ih => rw [fr]; split <;> omega
theorem fr_same {l k : List UInt8} (m : Nat) (h : ∀ i, i < m -> bt l i = bt k i) : fr l m = fr k m := by
  induction m with
  | zero => rfl
  | succ m ih => rw [fr, fr, ih (fun i hi => h i (by omega)), h m (by omega)]
theorem fr_set1 (l : List UInt8) (i m : Nat) (hi : i < 8 * l.length) (hm : i < m) (hb : bt l i = false) : fr (set1 l i true) m + 1 = fr l m := by
  induction m with
  | zero => omega
  | succ m ih =>
    rw [fr, fr, bt_set1 _ _ _ _ hi]
    by_cases e : m = i
    . subst e
      rw [fr_same (l := set1 l m true) (k := l) m (fun k hk => by rw [bt_set1 _ _ _ _ hi, if_neg (by omega)])]
      simp [hb]
    . rw [if_neg e, <- ih (by omega)]; omega
def bump (R : List (Nat × Nat)) : List (Nat × Nat) := R.dropLast ++ match R.getLast? with
  | none => []
  | some x => [(x.1, x.2 + 1)]
theorem bump_snoc (R : List (Nat × Nat)) (s c : Nat) : bump (R ++ [(s, c)]) = R ++ [(s, c + 1)] := by simp [bump]
def rs (l : List UInt8) : Nat -> List (Nat × Nat)
  | 0 => []
  | i + 1 => if bt l i = true then rs l i else bump (if i = 0 \/ bt l (i - 1) = true then rs l i ++ [(i, 0)] else rs l i)
def RO (l : List UInt8) (m : Nat) : Int -> List (Nat × Nat) -> Prop
  | e, [] => ∀ k : Nat, e < k -> k < m -> bt l k = true
  | e, x :: R => e < x.1 /\ 1 <= x.2 /\ x.1 + x.2 <= m /\ (∀ k : Nat, e < k -> k < x.1 -> bt l k = true) /\ (∀ k, x.1 <= k -> k < x.1 + x.2 -> bt l k = false) /\ (0 < x.1 -> bt l (x.1 - 1) = true) /\ (x.1 + x.2 < m -> bt l (x.1 + x.2) = true) /\ RO l m ((x.1 + x.2 : Nat) : Int) R
theorem RO.used {l : List UInt8} {i : Nat} {e : Int} {R : List (Nat × Nat)} (h : RO l i e R) (hb : bt l i = true) : RO l (i + 1) e R := by
  induction R generalizing e with
  | nil =>
    intro k h1 h2
    by_cases e1 : k = i
    . rw [e1]; exact hb
    . exact h k h1 (by omega)
  | cons x R ih =>
    obtain ⟨h1, h2, h3, h4, h5, h6, h7, h8⟩ := h
    refine ⟨h1, h2, by omega, h4, h5, h6, ?_, ih h8⟩
    intro h9
    by_cases e1 : x.1 + x.2 = i
    . rw [e1]; exact hb
    . exact h7 (by omega)
theorem RO.new {l : List UInt8} {i : Nat} {e : Int} {R : List (Nat × Nat)} (h : RO l i e R) (he : e < i) (hb : bt l i = false) (hp : 0 < i -> bt l (i - 1) = true) : RO l (i + 1) e (R ++ [(i, 1)]) := by
  induction R generalizing e with
  | nil =>
    refine ⟨he, Nat.le_refl _, Nat.le_refl _, h, ?_, hp, (fun h => absurd h (Nat.lt_irrefl _)), ?_⟩
    . intro k h1 h2
      have h3 : k = i := by simp only at h1 h2; omega
      rw [h3]; exact hb
    . intro k h1 h2; simp only at h1; omega
  | cons x R ih =>
    obtain ⟨h1, h2, h3, h4, h5, h6, h7, h8⟩ := h
    have hlt : x.1 + x.2 < i := by
      by_cases e1 : x.1 + x.2 = i
      . have h9 := h5 (i - 1) (by omega) (by omega)
        rw [hp (by omega)] at h9; cases h9
      . omega
    exact ⟨h1, h2, by omega, h4, h5, h6, (fun _ => h7 hlt), ih h8 (by omega)⟩
theorem RO.lt {l : List UInt8} {m : Nat} {e : Int} {R : List (Nat × Nat)} {x : Nat × Nat} (h : RO l m e (R ++ [x])) : e < m := by
  cases R with
  | nil => obtain ⟨h1, h2, h3, _⟩ := h; omega
  | cons y R => obtain ⟨h1, h2, h3, _⟩ := h; omega
theorem RO.bump {l : List UInt8} {i : Nat} {e : Int} {R : List (Nat × Nat)} {s c : Nat} (h : RO l i e (R ++ [(s, c)])) (h0 : 0 < i) (hb : bt l i = false) (hp : bt l (i - 1) = false) : RO l (i + 1) e (R ++ [(s, c + 1)]) := by
  induction R generalizing e with
  | nil =>
    obtain ⟨h1, h2, h3, h4, h5, h6, h7, h8⟩ := h
    simp only at h1 h2 h3 h4 h5 h6 h7 h8
    have hsc : s + c = i := by
      by_cases e1 : s + c = i
      . exact e1
      . exfalso
        have h9 := h7 (by omega)
        by_cases e2 : s + c = i - 1
        . rw [e2, hp] at h9; cases h9
        . have := h8 (i - 1) (by omega) (by omega)
          rw [hp] at this; cases this
    refine ⟨h1, by simp only; omega, by simp only; omega, h4, ?_, h6, (fun h => by simp only at h; omega), ?_⟩
    . intro k k1 k2
      simp only at k1 k2
      by_cases e1 : k = i
      . rw [e1]; exact hb
      . exact h5 k k1 (by omega)
    . intro k h1 h2; simp only at h1; omega
  | cons x R ih =>
    obtain ⟨h1, h2, h3, h4, h5, h6, h7, h8⟩ := h
    have hlt := h8.lt
    exact ⟨h1, h2, by omega, h4, h5, h6, (fun _ => h7 (by omega)), ih h8⟩
theorem rs_ok (l : List UInt8) (m : Nat) : RO l m (-1) (rs l m) := by
  induction m with
  | zero => intro k h1 h2; omega
  | succ i ih =>
    rw [rs]
    by_cases hb : bt l i = true
    . rw [if_pos hb]; exact ih.used hb
    . rw [if_neg hb]
      have hb' : bt l i = false := by simpa using hb
      by_cases hc : i = 0 \/ bt l (i - 1) = true
      . rw [if_pos hc, bump_snoc]
        exact ih.new (by omega) hb' (fun h => by rcases hc with hc | hc; omega; exact hc)
      . rw [if_neg hc]
        have h0 : 0 < i := by omega
        have hp : bt l (i - 1) = false := by
          cases hx : bt l (i - 1)
          . rfl
          . exact absurd (.inr hx) hc
        rcases List.eq_nil_or_concat (rs l i) with he | ⟨R, x, he⟩
        . rw [he] at ih
          have := ih (i - 1) (by omega) (by omega)
          rw [hp] at this; cases this
        . rw [List.concat_eq_append] at he
          rw [he] at ih ⊢
          have e2 : x = (x.1, x.2) := rfl
          rw [e2] at ih ⊢
          rw [bump_snoc]
          exact ih.bump h0 hb' hp
theorem rs_len (l : List UInt8) (m : Nat) : (rs l m).length <= m := by
  induction m with
  | zero => exact Nat.le_refl _
  | succ i ih =>
    rw [rs]
    split
    . omega
    . have hb : ∀ R : List (Nat × Nat), (bump R).length = R.length := by
        intro R
        rcases List.eq_nil_or_concat R with he | ⟨R', x, he⟩
        . subst he; rfl
        . rw [List.concat_eq_append] at he
          subst he; have e2 : x = (x.1, x.2) := rfl
          rw [e2, bump_snoc]; simp
      rw [hb]
      split
      . simp; omega
      . omega

def fits (l : List UInt8) (m c s : Nat) : Bool := decide (1 <= c /\ s + c <= m) && (List.range c).all fun k => !bt l (s + k)
def fit (l : List UInt8) (m c : Nat) : Option Nat := (List.range m).find? (fits l m c)
theorem fits_iff {l : List UInt8} {m c s : Nat} : fits l m c s = true ↔ 1 <= c /\ s + c <= m /\ ∀ k, s <= k -> k < s + c -> bt l k = false := by
  unfold fits
  simp only [Bool.and_eq_true, decide_eq_true_eq, List.all_eq_true, List.mem_range, Bool.not_eq_true']
  constructor
  . rintro ⟨⟨h1, h2⟩, h3⟩
    refine ⟨h1, h2, fun k a b => ?_⟩
    have := h3 (k - s) (by omega)
    rwa [show s + (k - s) = k by omega] at this
  . rintro ⟨h1, h2, h3⟩
    exact ⟨⟨h1, h2⟩, fun k hk => h3 _ (by omega) (by omega)⟩
theorem fits_no {l : List UInt8} {m c s : Nat} (h : ¬ (1 <= c /\ s + c <= m /\ ∀ k, s <= k -> k < s + c -> bt l k = false)) : fits l m c s = false := by
  cases hx : fits l m c s
  . rfl
  . exact absurd (fits_iff.1 hx) h
theorem fit_some {l : List UInt8} {m c s : Nat} (h : fits l m c s = true) (hl : ∀ t, t < s -> fits l m c t = false) : fit l m c = some s := by
  unfold fit
  rw [List.find?_range_eq_some]
  have := fits_iff.1 h
  exact ⟨h, by rw [List.mem_range]; omega, fun j hj => by rw [hl j hj]; rfl⟩
theorem fit_none {l : List UInt8} {m c : Nat} (h : ∀ t, fits l m c t = false) : fit l m c = none := by
  unfold fit
  rw [List.find?_eq_none]
  intro x _ hx
  rw [h x] at hx; cases hx
theorem fit_is {l : List UInt8} {m c s : Nat} (h : fit l m c = some s) : fits l m c s = true /\ ∀ t, t < s -> fits l m c t = false := by
  unfold fit at h
  rw [List.find?_range_eq_some] at h
  exact ⟨h.1, fun t ht => by simpa using h.2.2 t ht⟩
def rn (l : List UInt8) : Nat -> Nat
  | 0 => 0
  | i + 1 => if bt l i = true then 0 else rn l i + 1
theorem rn_le (l : List UInt8) (i : Nat) : rn l i <= i := by
  induction i with
  | zero => exact Nat.le_refl _
  | succ i ih => rw [rn]; split <;> omega
theorem rn_free (l : List UInt8) (i k : Nat) (h1 : i - rn l i <= k) (h2 : k < i) : bt l k = false := by
  induction i with
  | zero => omega
  | succ i ih =>
    rw [rn] at h1
    by_cases hb : bt l i = true
    . rw [if_pos hb] at h1; omega
    . rw [if_neg hb] at h1
      by_cases e : k = i
      . rw [e]; simpa using hb
      . exact ih (by omega) (by omega)
theorem rn_most (l : List UInt8) (i d : Nat) (hd : d <= i) (h : ∀ k, i - d <= k -> k < i -> bt l k = false) : d <= rn l i := by
  induction i generalizing d with
  | zero => omega
  | succ i ih =>
    cases d with
    | zero => omega
    | succ d =>
      have hb := h i (by omega) (by omega)
      rw [rn, if_neg (by simp [hb])]
      have := ih d (by omega) (fun k a b => h k (by omega) (by omega))
      omega
def NoFit (l : List UInt8) (c i : Nat) : Prop := ∀ s, s + c <= i -> 1 <= c -> ∃ k, s <= k /\ k < s + c /\ bt l k = true
theorem NoFit.zero (l : List UInt8) (c : Nat) : NoFit l c 0 := fun s h1 h2 => by omega
theorem NoFit.step {l : List UInt8} {c i : Nat} (h : NoFit l c i) (hn : bt l i = true \/ rn l i + 1 ≠ c) : NoFit l c (i + 1) := by
  intro s h1 h2
  by_cases e : s + c <= i
  . exact h s e h2
  . have he : s + c = i + 1 := by omega
    by_cases hb : bt l i = true
    . exact ⟨i, by omega, by omega, hb⟩
    . rcases hn with hn | hn
      . exact absurd hn hb
      . apply Classical.byContradiction
        intro hall
        have hf : ∀ k, s <= k -> k < s + c -> bt l k = false := fun k a b => by
          cases hx : bt l k
          . rfl
          . exact absurd ⟨k, a, b, hx⟩ hall
        have hm := rn_most l i (c - 1) (by omega) (fun k a b => hf k (by omega) (by omega))
        have hge : c <= rn l i := by omega
        have hle := rn_le l i
        obtain ⟨k, k1, k2, k3⟩ := h (i - c) (by omega) h2
        rw [rn_free l i k (by omega) (by omega)] at k3
        cases k3
theorem NoFit.found {l : List UInt8} {c i m : Nat} (h : NoFit l c i) (hi : i < m) (hb : bt l i = false) (hc : rn l i + 1 = c) : fit l m c = some (i + 1 - c) := by
  have hle := rn_le l i
  apply fit_some
  . rw [fits_iff]
    refine ⟨by omega, by omega, fun k a b => ?_⟩
    by_cases e : k = i
    . rw [e]; exact hb
    . exact rn_free l i k (by omega) (by omega)
  . intro t ht
    apply fits_no
    rintro ⟨h1, h2, h3⟩
    obtain ⟨k, k1, k2, k3⟩ := h t (by omega) h1
    rw [h3 k k1 k2] at k3; cases k3
theorem NoFit.none {l : List UInt8} {c m : Nat} (h : NoFit l c m) : fit l m c = none := by
  apply fit_none
  intro t
  apply fits_no
  rintro ⟨h1, h2, h3⟩
  obtain ⟨k, k1, k2, k3⟩ := h t h2 h1
  rw [h3 k k1 k2] at k3; cases k3

def Short (l : List UInt8) (m c : Nat) (R : List (Nat × Nat)) : Prop := ∃ e : Int, RO l m e R /\ ∀ s : Nat, (s : Int) <= e -> fits l m c s = false
theorem Short.step {l : List UInt8} {m c : Nat} {x : Nat × Nat} {R : List (Nat × Nat)} (h : Short l m c (x :: R)) (hx : x.2 < c) : Short l m c R := by
  obtain ⟨e, ⟨h1, h2, h3, h4, h5, h6, h7, h8⟩, hs⟩ := h
  refine ⟨_, h8, fun s hse => ?_⟩
  by_cases e1 : (s : Int) <= e
  . exact hs s e1
  . apply fits_no
    rintro ⟨f1, f2, f3⟩
    by_cases e2 : s < x.1
    . have := f3 s (by omega) (by omega)
      rw [h4 s (by omega) e2] at this; cases this
    . have := f3 (x.1 + x.2) (by omega) (by omega)
      rw [h7 (by omega)] at this; cases this
theorem Short.found {l : List UInt8} {m c : Nat} {x : Nat × Nat} {R : List (Nat × Nat)} (h : Short l m c (x :: R)) (hx : c <= x.2) (hc : 1 <= c) : fit l m c = some x.1 := by
  obtain ⟨e, ⟨h1, h2, h3, h4, h5, h6, h7, h8⟩, hs⟩ := h
  apply fit_some
  . rw [fits_iff]; exact ⟨hc, by omega, fun k a b => h5 k a (by omega)⟩
  . intro t ht
    by_cases e1 : (t : Int) <= e
    . exact hs t e1
    . apply fits_no
      rintro ⟨f1, f2, f3⟩
      have := f3 t (by omega) (by omega)
      rw [h4 t (by omega) ht] at this; cases this
theorem Short.none {l : List UInt8} {m c : Nat} (h : Short l m c []) : fit l m c = none := by
  obtain ⟨e, h1, hs⟩ := h
  apply fit_none
  intro t
  by_cases e1 : (t : Int) <= e
  . exact hs t e1
  . apply fits_no
    rintro ⟨f1, f2, f3⟩
    have := f3 t (by omega) (by omega)
    rw [h1 t (by omega) (by omega)] at this; cases this
end Go.Proofs.YthambopnmhkeeaaGreat.Bm
/- A store in plain lists, while the power is there: what is committed (H), told (t), touched (d), the bitmap, and what each call answers and leaves. Nothing is kept here: how many blocks are kept is not seen (SMath). -/
namespace Go.Proofs.YthambopnmhkeeaaGreat
open Bm

def nbM (n : Nat) : Nat := (n + 2047) / 2048
def firstD (n : Nat) : Nat := 63 + nbM n
def blkM (l : List UInt8) (k : Nat) : List UInt8 := (l.drop (256 * k)).take 256
def mapT (n : Nat) (t : Int -> ByteArray) : List UInt8 := (List.range (nbM n)).flatMap fun k => (t ((63 + k : Nat) : Int)).data.toList
def txt (l : List UInt8) : ByteArray := ⟨l.toArray⟩
def turnedM (n : Nat) (was bits : List UInt8) : List (Int × ByteArray) := ((List.range (nbM n)).filter fun k => blkM bits k != blkM was k).map fun k => (((63 + k : Nat) : Int), txt (blkM bits k))

theorem blk_len {l : List UInt8} {m k : Nat} (h : l.length = 256 * m) (hk : k < m) : (blkM l k).length = 256 := by
  unfold blkM; rw [List.length_take, List.length_drop]; omega
theorem blocks_join (l : List UInt8) (m : Nat) (h : l.length = 256 * m) : (List.range m).flatMap (blkM l) = l := by
  induction m generalizing l with
  | zero => cases l with
    | nil => rfl
    | cons _ _ => simp at h
  | succ m ih =>
    rw [List.range_succ_eq_map, List.flatMap_cons, List.flatMap_map]
    have h2 := ih (l.drop 256) (by rw [List.length_drop]; omega)
    have e : (fun k => blkM l (k + 1)) = blkM (l.drop 256) := by
      funext k; unfold blkM; rw [List.drop_drop]; congr 2; omega
    show blkM l 0 ++ (List.range m).flatMap (fun k => blkM l (k + 1)) = l
    rw [e, h2]
    unfold blkM
    rw [Nat.mul_zero, List.drop_zero, List.take_append_drop]
theorem mapT_len (n : Nat) (t : Int -> ByteArray) (h : ∀ i, (t i).size = 256) : (mapT n t).length = 256 * nbM n := by
  unfold mapT
  induction nbM n with
  | zero => rfl
  | succ m ih =>
    rw [List.range_succ, List.flatMap_append, List.length_append, ih]
    have := h ((63 + m : Nat) : Int)
    simp only [List.flatMap_cons, List.flatMap_nil, List.append_nil, Array.length_toList]
    show 256 * m + (t _).size = _
    omega
theorem fm_blk (g : Nat -> List UInt8) (hg : ∀ j, (g j).length = 256) (m k : Nat) (hk : k < m) : blkM ((List.range m).flatMap g) k = g k := by
  induction m generalizing g k with
  | zero => omega
  | succ m ih =>
    rw [List.range_succ_eq_map, List.flatMap_cons, List.flatMap_map]
    have h0 := hg 0
    cases k with
    | zero => unfold blkM; rw [Nat.mul_zero, List.drop_zero, <- h0, List.take_left]
    | succ k =>
      have := ih (fun j => g (j + 1)) (fun j => hg _) k (by omega)
      rw [<- this]
      unfold blkM
      rw [show 256 * (k + 1) = (g 0).length + 256 * k by omega, <- List.drop_drop, List.drop_left]
theorem mapT_blk (n : Nat) (t : Int -> ByteArray) (h : ∀ i, (t i).size = 256) (k : Nat) (hk : k < nbM n) : blkM (mapT n t) k = (t ((63 + k : Nat) : Int)).data.toList :=
  fm_blk _ (fun j => by rw [Array.length_toList]; exact h _) _ _ hk
theorem mapT_of (n : Nat) (t : Int -> ByteArray) (B : List UInt8) (hB : B.length = 256 * nbM n) (h : ∀ k, k < nbM n -> (t ((63 + k : Nat) : Int)).data.toList = blkM B k) : mapT n t = B := by
  rw [<- blocks_join B _ hB]
  unfold mapT
  have : ∀ m, m <= nbM n -> (List.range m).flatMap (fun k => (t ((63 + k : Nat) : Int)).data.toList) = (List.range m).flatMap (blkM B) := by
    intro m
    induction m with
    | zero => intro _; rfl
    | succ m ih =>
      intro hm
      rw [List.range_succ, List.flatMap_append, List.flatMap_append, ih (by omega)]
      simp only [List.flatMap_cons, List.flatMap_nil, List.append_nil]
      rw [h m (by omega)]
  exact this _ (Nat.le_refl _)

structure TS where
  n : Nat
  H : Int -> ByteArray
  t : Int -> ByteArray
  d : Int -> Bool
  bits : List UInt8
  keep : List UInt8
  op : Bool

namespace TS
def data (P : TS) (i c : Int) : Bool := decide ((firstD P.n : Int) <= i) && decide (c <= (P.n : Int) - i)
def cnt (P : TS) : Nat := (List.range P.n).countP fun i : Nat => P.d (i : Int)
def over (P : TS) (L : List (Int × ByteArray)) : TS := L.foldl (fun P x => { P with t := fun j => if j = x.1 then x.2 else P.t j, d := fun j => if j = x.1 then true else P.d j }) P
def touch (P : TS) (L : List (Int × ByteArray)) : Int × TS := if 48 < P.cnt + (L.filter fun x => !P.d x.1).length then (6, P) else (0, P.over L)
def undo (P : TS) : TS := { P with t := P.H, d := fun _ => false, bits := P.keep, op := false }
def begin_ (P : TS) : Int × TS := if P.op = true then (15, P) else (0, { P with op := true })
def write (P : TS) (i : Int) (s : ByteArray) : Int × TS :=
  if P.op = false then (15, P) else if P.data i 1 = false then (2, P) else if gb P.bits i = false then (10, P) else if s.size ≠ 256 then (3, P) else P.touch [(i, s)]
def turn (P : TS) (a c : Nat) (on : Bool) : Int × TS :=
  let B := stL P.bits a on c
  match P.touch (turnedM P.n P.bits B) with
  | (e, Q) => if e ≠ 0 then (e, P) else (0, { Q with bits := B })
def alloc (P : TS) (c : Int) : (Int × Int) × TS :=
  if P.op = false then ((0, 15), P) else if c < 1 then ((0, 1), P) else match fit P.bits P.n c.toNat with
    | none => ((0, 9), P)
    | some a => match P.turn a c.toNat true with
      | (e, Q) => if e ≠ 0 then ((0, e), P) else (((a : Int), 0), Q)
def release (P : TS) (a c : Int) : Int × TS :=
  if P.op = false then (15, P) else if c < 1 \/ P.data a c = false then (2, P) else if (List.range c.toNat).all (fun k => gb P.bits (a + k)) = false then (10, P) else P.turn a.toNat c.toNat false
def commit (P : TS) : Int × TS :=
  if P.op = false then (15, P) else (0, { P with H := P.t, keep := P.bits }.undo)
def read (P : TS) (i : Int) : ByteArray × Int := if P.data i 1 = false then (⟨#[]⟩, 2) else (P.t i, 0)

structure Ok (P : TS) : Prop where
  n0 : 128 <= P.n
  n1 : P.n <= 4096
  same : ∀ i, P.d i = false -> P.t i = P.H i
  shut : P.op = false -> ∀ i, P.d i = false
  rng : ∀ i, P.d i = true -> 63 <= i /\ i < P.n
  st : ∀ i, (P.t i).size = 256
  sH : ∀ i, (P.H i).size = 256
  mt : P.bits = mapT P.n P.t
  mH : P.keep = mapT P.n P.H
  low : ∀ i, i < firstD P.n -> bt P.bits i = true /\ bt P.keep i = true
  high : ∀ i, P.n <= i -> bt P.bits i = false /\ bt P.keep i = false
  few : P.cnt <= 48

theorem over_n (P : TS) (L : List (Int × ByteArray)) : (P.over L).n = P.n /\ (P.over L).H = P.H /\ (P.over L).bits = P.bits /\ (P.over L).keep = P.keep /\ (P.over L).op = P.op := by
  induction L generalizing P with
  | nil => exact ⟨rfl, rfl, rfl, rfl, rfl⟩
  | cons x r ih => exact ih { P with t := fun j => if j = x.1 then x.2 else P.t j, d := fun j => if j = x.1 then true else P.d j }
theorem over_not (P : TS) (L : List (Int × ByteArray)) (i : Int) (h : ∀ x ∈ L, x.1 ≠ i) : (P.over L).t i = P.t i /\ (P.over L).d i = P.d i := by
  induction L generalizing P with
  | nil => exact ⟨rfl, rfl⟩
  | cons x r ih =>
    have h1 := ih { P with t := fun j => if j = x.1 then x.2 else P.t j, d := fun j => if j = x.1 then true else P.d j } fun y hy => h y (by simp [hy])
    have h2 := h x (by simp)
    dsimp only at h1
    rw [if_neg (Ne.symm h2), if_neg (Ne.symm h2)] at h1
    exact h1
theorem over_at (P : TS) (L : List (Int × ByteArray)) (hn : (L.map fun x => x.1).Nodup) (x : Int × ByteArray) (hx : x ∈ L) : (P.over L).t x.1 = x.2 /\ (P.over L).d x.1 = true := by
  induction L generalizing P with
  | nil => cases hx
  | cons y r ih =>
    obtain ⟨h1, h2⟩ := List.nodup_cons.1 (show (y.1 :: r.map fun x => x.1).Nodup from hn)
    rcases List.mem_cons.1 hx with rfl | hx
    . have := over_not { P with t := fun j => if j = x.1 then x.2 else P.t j, d := fun j => if j = x.1 then true else P.d j } r x.1 (fun z hz e => h1 (e ▸ List.mem_map.2 ⟨z, hz, rfl⟩))
      dsimp only at this
      rw [if_pos rfl, if_pos rfl] at this
      exact this
    . exact ih _ h2 hx
theorem Ok.undo {P : TS} (h : P.Ok) : P.undo.Ok /\ P.undo.cnt = 0 := by
  have hc : P.undo.cnt = 0 := List.countP_eq_zero.2 fun i _ => by show ¬ (false = true); simp
  exact ⟨⟨h.n0, h.n1, fun _ _ => rfl, fun _ _ => rfl, (fun _ hi => by cases hi), h.sH, h.sH, h.mH, h.mH, fun i hi => ⟨(h.low i hi).2, (h.low i hi).2⟩, fun i hi => ⟨(h.high i hi).2, (h.high i hi).2⟩, by omega⟩, hc⟩
theorem Ok.commit {P : TS} (h : P.Ok) : P.commit.2.Ok := by
  unfold TS.commit
  split
  . exact h
  . have h1 : ({ P with H := P.t, keep := P.bits } : TS).Ok := ⟨h.n0, h.n1, fun _ _ => rfl, h.shut, h.rng, h.st, h.st, h.mt, h.mt, fun i hi => ⟨(h.low i hi).1, (h.low i hi).1⟩, fun i hi => ⟨(h.high i hi).1, (h.high i hi).1⟩, h.few⟩
    exact h1.undo.1
theorem Ok.begin_ {P : TS} (h : P.Ok) : P.begin_.2.Ok := by
  unfold TS.begin_
  split
  . exact h
  . exact ⟨h.n0, h.n1, h.same, (fun e => by cases e), h.rng, h.st, h.sH, h.mt, h.mH, h.low, h.high, h.few⟩
theorem count_one (d : Int -> Bool) (x : Int) (n : Nat) : ((List.range n).countP fun i : Nat => if (i : Int) = x then true else d (i : Int)) <= ((List.range n).countP fun i : Nat => d (i : Int)) + (if (0 <= x /\ x < n) /\ d x = false then 1 else 0) := by
  induction n with
  | zero => simp
  | succ n ih =>
    rw [List.range_succ, List.countP_append, List.countP_append]
    have e : ∀ p : Nat -> Bool, List.countP p [n] = if p n = true then 1 else 0 := fun p => by rw [List.countP_cons, List.countP_nil, Nat.zero_add]
    rw [e, e]
    generalize (List.range n).countP (fun i : Nat => if (i : Int) = x then true else d (i : Int)) = A at ih ⊢
    generalize (List.range n).countP (fun i : Nat => d (i : Int)) = B at ih ⊢
    by_cases hx : (n : Int) = x
    . have i1 : ¬ ((0 <= x /\ x < (n : Int)) /\ d x = false) := by omega
      rw [if_neg i1] at ih
      rw [if_pos hx, if_pos rfl]
      cases hd : d x with
      | false =>
        have i2 : (0 <= x /\ x < ((n + 1 : Nat) : Int)) /\ false = false := ⟨by omega, rfl⟩
        rw [if_pos i2]; omega
      | true =>
        have i3 : d (n : Int) = true := by rw [hx]; exact hd
        rw [if_pos i3]; omega
    . rw [if_neg hx]
      have i4 : (if (0 <= x /\ x < (n : Int)) /\ d x = false then 1 else 0 : Nat) <= (if (0 <= x /\ x < ((n + 1 : Nat) : Int)) /\ d x = false then 1 else 0) := by
        by_cases h : (0 <= x /\ x < (n : Int)) /\ d x = false
        . have h' : (0 <= x /\ x < ((n + 1 : Nat) : Int)) /\ d x = false := ⟨by omega, h.2⟩
          rw [if_pos h, if_pos h']; exact Nat.le_refl _
        . rw [if_neg h]; exact Nat.zero_le _
      omega
theorem cnt_over (P : TS) (L : List (Int × ByteArray)) (hn : (L.map fun x => x.1).Nodup) : (P.over L).cnt <= P.cnt + (L.filter fun x => !P.d x.1).length := by
  induction L generalizing P with
  | nil => exact Nat.le_refl _
  | cons x r ih =>
    obtain ⟨h1, h2⟩ := List.nodup_cons.1 (show (x.1 :: r.map fun x => x.1).Nodup from hn)
    have h3 := ih { P with t := fun j => if j = x.1 then x.2 else P.t j, d := fun j => if j = x.1 then true else P.d j } h2
    have h4 : (r.filter fun y => !(if y.1 = x.1 then true else P.d y.1)) = r.filter fun y => !P.d y.1 := List.filter_congr fun y hy => by
      have : y.1 ≠ x.1 := fun e => h1 (e ▸ List.mem_map.2 ⟨y, hy, rfl⟩)
      rw [if_neg this]
    dsimp only at h3
    rw [h4] at h3
    have h5 := count_one P.d x.1 P.n
    have h6 : ((x :: r).filter fun y => !P.d y.1).length = (if P.d x.1 = false then 1 else 0) + (r.filter fun y => !P.d y.1).length := by
      rw [List.filter_cons]
      cases hd : P.d x.1 <;> simp <;> omega
    rw [h6]
    have h7 : (if ((0 : Int) <= x.1 /\ x.1 < P.n) /\ P.d x.1 = false then 1 else 0 : Nat) <= (if P.d x.1 = false then 1 else 0) := by
      split
      . rename_i h; rw [if_pos h.2]; exact Nat.le_refl _
      . exact Nat.zero_le _
    have h8 : (TS.cnt { P with t := fun j => if j = x.1 then x.2 else P.t j, d := fun j => if j = x.1 then true else P.d j }) = ((List.range P.n).countP fun i : Nat => if (i : Int) = x.1 then true else P.d (i : Int)) := rfl
    have h9 : P.cnt = ((List.range P.n).countP fun i : Nat => P.d (i : Int)) := rfl
    refine Nat.le_trans h3 ?_
    rw [h8, h9]
    omega
theorem Ok.touched {P : TS} (h : P.Ok) (hop : P.op = true) (L : List (Int × ByteArray)) (B : List UInt8) (hn : (L.map fun x => x.1).Nodup) (hr : ∀ x ∈ L, 63 <= x.1 /\ x.1 < P.n /\ x.2.size = 256) (hB : mapT P.n (P.over L).t = B)
    (low : ∀ i, i < firstD P.n -> bt B i = true) (high : ∀ i, P.n <= i -> bt B i = false) (he : (P.touch L).1 = 0) : ({ (P.touch L).2 with bits := B } : TS).Ok := by
  have e : P.touch L = (0, P.over L) := by
    unfold TS.touch at he ⊢
    split
    . rename_i hc; rw [if_pos hc] at he; cases he
    . rfl
  have hc : P.cnt + (L.filter fun x => !P.d x.1).length <= 48 := by
    unfold TS.touch at he
    split at he
    . cases he
    . omega
  rw [e]
  obtain ⟨o1, o2, o3, o4, o5⟩ := P.over_n L
  have hin : ∀ i, (∃ x ∈ L, x.1 = i) \/ ∀ x ∈ L, x.1 ≠ i := fun i => by
    by_cases hx : ∃ x ∈ L, x.1 = i
    . exact .inl hx
    . exact .inr fun x hx' e => hx ⟨x, hx', e⟩
  refine ⟨by dsimp only; rw [o1]; exact h.n0, by dsimp only; rw [o1]; exact h.n1, fun i hi => ?_, fun hs => ?_, fun i hi => ?_, fun i => ?_, fun i => ?_, by dsimp only; rw [o1]; exact hB.symm, by dsimp only; rw [o1, o2, o4]; exact h.mH, fun i hi => ?_, fun i hi => ?_, ?_⟩
  . dsimp only at hi ⊢
    rcases hin i with ⟨x, hx, rfl⟩ | hx
    . rw [(over_at P L hn x hx).2] at hi; cases hi
    . rw [(over_not P L i hx).2] at hi
      rw [(over_not P L i hx).1, o2]; exact h.same i hi
  . dsimp only at hs
    rw [o5, hop] at hs; cases hs
  . dsimp only at hi ⊢
    rw [o1]
    rcases hin i with ⟨x, hx, rfl⟩ | hx
    . exact ⟨(hr x hx).1, (hr x hx).2.1⟩
    . rw [(over_not P L i hx).2] at hi; exact h.rng i hi
  . dsimp only
    rcases hin i with ⟨x, hx, rfl⟩ | hx
    . rw [(over_at P L hn x hx).1]; exact (hr x hx).2.2
    . rw [(over_not P L i hx).1]; exact h.st i
  . dsimp only; rw [o2]; exact h.sH i
  . dsimp only at hi ⊢; rw [o1] at hi; rw [o4]; exact ⟨low i hi, (h.low i hi).2⟩
  . dsimp only at hi ⊢; rw [o1] at hi; rw [o4]; exact ⟨high i hi, (h.high i hi).2⟩
  . have := cnt_over P L hn
    show (P.over L).cnt <= 48
    omega
theorem turned_mem {n : Nat} {was B : List UInt8} {x : Int × ByteArray} (h : x ∈ turnedM n was B) : ∃ k, k < nbM n /\ blkM B k ≠ blkM was k /\ x = (((63 + k : Nat) : Int), txt (blkM B k)) := by
  unfold turnedM at h
  obtain ⟨k, hk, rfl⟩ := List.mem_map.1 h
  obtain ⟨h1, h2⟩ := List.mem_filter.1 hk
  exact ⟨k, List.mem_range.1 h1, by simpa using h2, rfl⟩
theorem turned_nodup (n : Nat) (was B : List UInt8) : ((turnedM n was B).map fun x => x.1).Nodup := by
  unfold turnedM
  rw [List.map_map]
  refine List.pairwise_map.2 ?_
  exact (List.nodup_range.sublist List.filter_sublist).imp fun h e => h (by simp only [Function.comp_apply] at e; omega)
theorem Ok.turned {P : TS} (h : P.Ok) (B : List UInt8) (hB : B.length = 256 * nbM P.n) : mapT P.n (P.over (turnedM P.n P.bits B)).t = B := by
  refine mapT_of _ _ _ hB fun k hk => ?_
  by_cases e : blkM B k = blkM P.bits k
  . have h1 := (over_not P (turnedM P.n P.bits B) ((63 + k : Nat) : Int) fun x hx he => by
      obtain ⟨k', _, h3, rfl⟩ := turned_mem hx
      dsimp only at he
      obtain rfl : k' = k := by omega
      exact h3 e).1
    rw [h1, <- mapT_blk _ _ h.st k hk, <- h.mt, e]
  . have hx : (((63 + k : Nat) : Int), txt (blkM B k)) ∈ turnedM P.n P.bits B := List.mem_map.2 ⟨k, List.mem_filter.2 ⟨List.mem_range.2 hk, by simpa using e⟩, rfl⟩
    rw [(over_at P _ (turned_nodup _ _ _) _ hx).1]
    rfl
theorem Ok.len {P : TS} (h : P.Ok) : P.bits.length = 256 * nbM P.n := by rw [h.mt]; exact mapT_len _ _ h.st
theorem Ok.turn {P : TS} (h : P.Ok) (hop : P.op = true) (a c : Nat) (on : Bool) (h1 : firstD P.n <= a) (h2 : a + c <= P.n) : (P.turn a c on).2.Ok := by
  have hl := h.len
  have hfit : a + c <= 8 * P.bits.length := by rw [hl]; unfold nbM; omega
  have hn8 : nbM P.n <= 2 := by have := h.n1; unfold nbM; omega
  have hn0 := h.n0
  unfold TS.turn
  dsimp only
  generalize hq : P.touch (turnedM P.n P.bits (stL P.bits a on c)) = q
  obtain ⟨e, Q⟩ := q
  dsimp only
  split
  . exact h
  . rename_i he
    have he : e = 0 := by simpa using he
    subst he
    have hB := stL_length P.bits a c on
    have := h.touched hop (turnedM P.n P.bits (stL P.bits a on c)) (stL P.bits a on c) (turned_nodup _ _ _) (fun x hx => ?_) (h.turned _ (by rw [hB, hl])) (fun i hi => ?_) (fun i hi => ?_) (by rw [hq])
    . rw [hq] at this; exact this
    . obtain ⟨k, hk, _, rfl⟩ := turned_mem hx
      refine ⟨by dsimp only; omega, by dsimp only; omega, ?_⟩
      show (blkM _ k).toArray.size = 256
      rw [List.size_toArray]
      exact blk_len (by rw [hB, hl]) hk
    . rw [bt_stL _ _ _ _ _ hfit, if_neg (by omega)]; exact (h.low i hi).1
    . rw [bt_stL _ _ _ _ _ hfit, if_neg (by omega)]; exact (h.high i hi).1
theorem Ok.write {P : TS} (h : P.Ok) (i : Int) (s : ByteArray) : (P.write i s).2.Ok := by
  unfold TS.write
  split
  . exact h
  . rename_i hop
    split
    . exact h
    . rename_i hd
      split
      . exact h
      . split
        . exact h
        . rename_i hs
          have hop : P.op = true := by simpa using hop
          have hd : (firstD P.n : Int) <= i /\ 1 <= (P.n : Int) - i := by
            have : P.data i 1 = true := by simpa using hd
            unfold TS.data at this
            simpa using this
          have hs : s.size = 256 := by simpa using hs
          have hf : 63 <= firstD P.n := by unfold firstD; omega
          by_cases he : (P.touch [(i, s)]).1 = 0
          . have hmt : mapT P.n (P.over [(i, s)]).t = P.bits := by
              rw [h.mt]
              refine mapT_of _ _ _ (mapT_len _ _ h.st) fun k hk => ?_
              rw [(over_not P [(i, s)] ((63 + k : Nat) : Int) fun x hx e => by
                rw [List.mem_singleton.1 hx] at e
                dsimp only at e
                unfold firstD at hd
                omega).1, <- mapT_blk _ _ h.st k hk]
            have := h.touched hop [(i, s)] P.bits (by simp) (fun x hx => by rw [List.mem_singleton.1 hx]; exact ⟨by dsimp only; omega, by dsimp only; omega, hs⟩) hmt (fun i hi => (h.low i hi).1) (fun i hi => (h.high i hi).1) he
            have e2 : ({ (P.touch [(i, s)]).2 with bits := P.bits } : TS) = (P.touch [(i, s)]).2 := by
              have hb : (P.touch [(i, s)]).2.bits = P.bits := by
                unfold TS.touch
                split
                . rfl
                . exact (P.over_n _).2.2.1
              rw [<- hb]
            rw [e2] at this
            exact this
          . have : (P.touch [(i, s)]).2 = P := by
              unfold TS.touch at he ⊢
              split
              . rfl
              . rename_i hc; rw [if_neg hc] at he; exact absurd rfl he
            rw [this]; exact h
theorem turn_op {P : TS} (a c : Nat) (on : Bool) : (P.turn a c on).2.op = P.op := by
  unfold TS.turn
  dsimp only
  generalize hq : P.touch (turnedM P.n P.bits (stL P.bits a on c)) = q
  obtain ⟨e, Q⟩ := q
  dsimp only
  split
  . rfl
  . show Q.op = P.op
    unfold TS.touch at hq
    split at hq
    . cases hq; rfl
    . cases hq; exact (P.over_n _).2.2.2.2
theorem Ok.release {P : TS} (h : P.Ok) (a c : Int) : (P.release a c).2.Ok := by
  unfold TS.release
  split
  . exact h
  . rename_i hop
    split
    . exact h
    . rename_i hd
      split
      . exact h
      . have hop : P.op = true := by simpa using hop
        have hd : 1 <= c /\ (firstD P.n : Int) <= a /\ c <= (P.n : Int) - a := by
          have h1 : ¬ c < 1 := fun e => hd (.inl e)
          have h2 : P.data a c = true := by
            cases hq : P.data a c with
            | true => rfl
            | false => exact absurd (.inr hq) hd
          unfold TS.data at h2
          simp only [Bool.and_eq_true, decide_eq_true_eq] at h2
          omega
        exact h.turn hop a.toNat c.toNat false (by omega) (by omega)
theorem Ok.fit_data {P : TS} (h : P.Ok) {c a : Nat} (hf : fit P.bits P.n c = some a) : 1 <= c /\ firstD P.n <= a /\ a + c <= P.n /\ ∀ k, a <= k -> k < a + c -> bt P.bits k = false := by
  obtain ⟨h1, h2, h3⟩ := fits_iff.1 (fit_is hf).1
  refine ⟨h1, ?_, h2, h3⟩
  apply Decidable.byContradiction
  intro hh
  have := (h.low a (by omega)).1
  rw [h3 a (Nat.le_refl _) (by omega)] at this
  cases this
theorem Ok.alloc {P : TS} (h : P.Ok) (c : Int) : (P.alloc c).2.Ok := by
  unfold TS.alloc
  split
  . exact h
  . rename_i hop
    have hop : P.op = true := by simpa using hop
    split
    . exact h
    . cases hf : fit P.bits P.n c.toNat with
      | none => exact h
      | some a =>
        obtain ⟨_, h2, h3, _⟩ := h.fit_data hf
        have ht := h.turn hop a c.toNat true h2 h3
        dsimp only
        generalize P.turn a c.toNat true = q at ht ⊢
        obtain ⟨e, Q⟩ := q
        dsimp only
        split
        . exact h
        . exact ht
theorem turned_few (n : Nat) (was B : List UInt8) : (turnedM n was B).length <= nbM n := by
  unfold turnedM
  rw [List.length_map]
  exact Nat.le_trans (List.length_filter_le _ _) (by rw [List.length_range]; exact Nat.le_refl _)
theorem turn_ok {P : TS} (hc : P.cnt + nbM P.n <= 48) (a c : Nat) (on : Bool) : (P.turn a c on).1 = 0 /\ (P.turn a c on).2.bits = stL P.bits a on c /\ (P.turn a c on).2.keep = P.keep /\ (P.turn a c on).2.H = P.H /\ (P.turn a c on).2.n = P.n := by
  have hl := turned_few P.n P.bits (stL P.bits a on c)
  have hf := List.length_filter_le (fun x : Int × ByteArray => !P.d x.1) (turnedM P.n P.bits (stL P.bits a on c))
  have e : P.touch (turnedM P.n P.bits (stL P.bits a on c)) = (0, P.over (turnedM P.n P.bits (stL P.bits a on c))) := by
    unfold TS.touch
    rw [if_neg (by omega)]
  obtain ⟨o1, o2, o3, o4, o5⟩ := P.over_n (turnedM P.n P.bits (stL P.bits a on c))
  unfold TS.turn
  dsimp only
  rw [e]
  dsimp only
  rw [if_neg (by simp)]
  exact ⟨rfl, rfl, o4, o2, o1⟩
def used (P : TS) : Nat := (List.range P.n).countP fun i => decide (firstD P.n <= i) && bt P.bits i
theorem fr_count (l : List UInt8) (m : Nat) : fr l m = (List.range m).countP fun i => !bt l i := by
  induction m with
  | zero => rfl
  | succ m ih =>
    rw [fr, ih, List.range_succ, List.countP_append, List.countP_cons, List.countP_nil, Nat.zero_add]
    congr 1
    cases bt l m <;> rfl
theorem Ok.counts {P : TS} (h : P.Ok) : P.used + fr P.bits P.n = P.n - firstD P.n := by
  have hall : ∀ m, m <= P.n -> ((List.range m).countP fun i => decide (firstD P.n <= i) && bt P.bits i) + ((List.range m).countP fun i => !bt P.bits i) = m - firstD P.n := by
    intro m
    induction m with
    | zero => intro _; simp
    | succ m ih =>
      intro hm
      have := ih (by omega)
      rw [List.range_succ, List.countP_append, List.countP_append]
      have e : ∀ p : Nat -> Bool, List.countP p [m] = if p m = true then 1 else 0 := fun p => by rw [List.countP_cons, List.countP_nil, Nat.zero_add]
      rw [e, e]
      by_cases hf : firstD P.n <= m
      . cases hb : bt P.bits m <;> simp [hf] <;> omega
      . have := (h.low m (by omega)).1
        simp [hf, this]; omega
  rw [fr_count]
  exact hall _ (Nat.le_refl _)
end TS
end Go.Proofs.YthambopnmhkeeaaGreat
/- A store in plain lists: what a store's state is, and what StoreStates, StoreCounts and StoreOthers ask, of plain lists. -/
namespace Go.Proofs.YthambopnmhkeeaaGreat
open Bm
namespace TS

def stateL (P : TS) : List UInt8 := (List.range P.n).flatMap fun i => if firstD P.n <= i /\ bt P.bits i = true then UInt8.ofNat i :: UInt8.ofNat (i / 256) :: (P.t (i : Int)).data.toList else []
theorem state_same {P Q : TS} (h1 : Q.n = P.n) (h2 : Q.bits = P.bits) (h3 : ∀ i : Nat, firstD P.n <= i -> Q.t (i : Int) = P.t (i : Int)) : Q.stateL = P.stateL := by
  unfold stateL
  rw [h1, h2]
  congr 1
  funext i
  by_cases hi : firstD P.n <= i /\ bt P.bits i = true
  . rw [if_pos hi, if_pos hi, h3 i hi.1]
  . rw [if_neg hi, if_neg hi]

def Kept (P Q : TS) : Prop := Q.n = P.n /\ Q.H = P.H /\ Q.keep = P.keep
theorem Kept.refl (P : TS) : Kept P P := ⟨rfl, rfl, rfl⟩
theorem Kept.trans {P Q R : TS} (h : Kept P Q) (g : Kept Q R) : Kept P R := ⟨g.1.trans h.1, g.2.1.trans h.2.1, g.2.2.trans h.2.2⟩
theorem kept_touch (P : TS) (L : List (Int × ByteArray)) : Kept P (P.touch L).2 := by
  unfold touch
  split
  . exact Kept.refl P
  . obtain ⟨o1, o2, _, o4, _⟩ := P.over_n L
    exact ⟨o1, o2, o4⟩
theorem kept_turn (P : TS) (a c : Nat) (on : Bool) : Kept P (P.turn a c on).2 := by
  have := kept_touch P (turnedM P.n P.bits (stL P.bits a on c))
  unfold turn
  dsimp only
  generalize P.touch (turnedM P.n P.bits (stL P.bits a on c)) = q at this ⊢
  obtain ⟨e, Q⟩ := q
  dsimp only
  split
  . exact Kept.refl P
  . exact this
theorem kept_write (P : TS) (i : Int) (s : ByteArray) : Kept P (P.write i s).2 := by
  unfold write
  split
  . exact Kept.refl P
  . split
    . exact Kept.refl P
    . split
      . exact Kept.refl P
      . split
        . exact Kept.refl P
        . exact kept_touch _ _
theorem kept_alloc (P : TS) (c : Int) : Kept P (P.alloc c).2 := by
  unfold alloc
  split
  . exact Kept.refl P
  . split
    . exact Kept.refl P
    . cases fit P.bits P.n c.toNat with
      | none => exact Kept.refl P
      | some a =>
        have := kept_turn P a c.toNat true
        dsimp only
        generalize P.turn a c.toNat true = q at this ⊢
        obtain ⟨e, Q⟩ := q
        dsimp only
        split
        . exact Kept.refl P
        . exact this
theorem kept_release (P : TS) (a c : Int) : Kept P (P.release a c).2 := by
  unfold release
  split
  . exact Kept.refl P
  . split
    . exact Kept.refl P
    . split
      . exact Kept.refl P
      . exact kept_turn _ _ _ _
theorem states {P : TS} (ho : P.op = false) (c : Int) (i : Int) (s : ByteArray) : P.alloc c = ((0, 15), P) /\ P.write i s = (15, P) /\ P.release i c = (15, P) /\ P.commit = (15, P) /\
    P.begin_ = (0, { P with op := true }) /\ ({ P with op := true } : TS).begin_ = (15, { P with op := true }) /\ (({ P with op := true } : TS).commit).1 = 0 /\ (({ P with op := true } : TS).commit).2.stateL = P.stateL := by
  refine ⟨by unfold alloc; rw [if_pos ho], by unfold write; rw [if_pos ho], by unfold release; rw [if_pos ho], by unfold commit; rw [if_pos ho], by unfold begin_; rw [if_neg (by rw [ho]; simp)], by unfold begin_; rw [if_pos rfl], ?_, ?_⟩
  . unfold commit; rw [if_neg (by simp)]
  . unfold commit; rw [if_neg (by simp)]
    exact state_same rfl rfl fun _ _ => rfl

theorem alloc_fresh {P : TS} (h : P.Ok) (ho : P.op = true) (hc : P.cnt = 0) (k : Nat) (hk : 1 <= k) :
    (fit P.bits P.n k = none /\ P.alloc k = ((0, 9), P)) \/ ∃ a, fit P.bits P.n k = some a /\ P.alloc k = (((a : Int), 0), (P.turn a k true).2) /\ firstD P.n <= a /\ a + k <= P.n /\ (P.turn a k true).2.bits = stL P.bits a true k /\ (P.turn a k true).2.n = P.n /\ (P.turn a k true).2.op = true /\ (P.turn a k true).2.Ok /\ (P.turn a k true).2.cnt <= nbM P.n := by
  have hn8 : nbM P.n <= 2 := by have := h.n1; unfold nbM; omega
  cases hf : fit P.bits P.n k with
  | none =>
    left
    refine ⟨rfl, ?_⟩
    unfold alloc
    rw [if_neg (by rw [ho]; simp), if_neg (by omega), Int.toNat_natCast, hf]
  | some a =>
    right
    obtain ⟨_, g2, g3, g4⟩ := h.fit_data hf
    obtain ⟨t1, t2, _, _, t5⟩ := turn_ok (P := P) (by omega) a k true
    refine ⟨a, rfl, ?_, g2, g3, t2, t5, by rw [turn_op]; exact ho, h.turn ho a k true g2 g3, ?_⟩
    . unfold alloc
      rw [if_neg (by rw [ho]; simp), if_neg (by omega), Int.toNat_natCast, hf]
      dsimp only
      generalize P.turn a k true = q at t1 ⊢
      obtain ⟨e, Q⟩ := q
      dsimp only at t1 ⊢
      rw [if_neg (by omega)]
    . have hl := turned_few P.n P.bits (stL P.bits a true k)
      have hff := List.length_filter_le (fun x : Int × ByteArray => !P.d x.1) (turnedM P.n P.bits (stL P.bits a true k))
      have hov := cnt_over P (turnedM P.n P.bits (stL P.bits a true k)) (turned_nodup _ _ _)
      have e : P.touch (turnedM P.n P.bits (stL P.bits a true k)) = (0, P.over (turnedM P.n P.bits (stL P.bits a true k))) := by
        unfold touch
        rw [if_neg (by omega)]
      unfold turn
      dsimp only
      rw [e]
      dsimp only
      rw [if_neg (by simp)]
      show (P.over _).cnt <= _
      omega
def usedL (P : TS) : List Nat := (List.range P.n).filter fun i => decide (firstD P.n <= i) && bt P.bits i
def chunk (t : Int -> ByteArray) (i : Nat) : List UInt8 := UInt8.ofNat i :: UInt8.ofNat (i / 256) :: (t (i : Int)).data.toList
theorem state_used (P : TS) : P.stateL = P.usedL.flatMap (chunk P.t) := by
  have hg : ∀ (l : List Nat), (l.flatMap fun i => if firstD P.n <= i /\ bt P.bits i = true then chunk P.t i else []) = (l.filter fun i => decide (firstD P.n <= i) && bt P.bits i).flatMap (chunk P.t) := by
    intro l
    induction l with
    | nil => rfl
    | cons i r ih =>
      rw [List.flatMap_cons, ih]
      by_cases hi : firstD P.n <= i /\ bt P.bits i = true
      . rw [if_pos hi, List.filter_cons_of_pos (by simp [hi.1, hi.2]), List.flatMap_cons]
      . rw [if_neg hi, List.filter_cons_of_neg (by simpa using hi)]
        rfl
  exact hg _
theorem flat_at (l : List Nat) (g : Nat -> List UInt8) (hg : ∀ j, (g j).length = 258) : (l.flatMap g).length = 258 * l.length /\ ∀ q (h : q < l.length), ((l.flatMap g).drop (258 * q)).take 258 = g l[q] := by
  induction l with
  | nil => exact ⟨rfl, fun q h => absurd h (Nat.not_lt_zero _)⟩
  | cons x r ih =>
    obtain ⟨h1, h2⟩ := ih
    have hx := hg x
    refine ⟨by rw [List.flatMap_cons, List.length_append, h1, List.length_cons, hx]; omega, fun q h => ?_⟩
    rw [List.flatMap_cons]
    cases q with
    | zero => rw [Nat.mul_zero, List.drop_zero, <- hx, List.take_left]; rfl
    | succ q =>
      rw [show 258 * (q + 1) = (g x).length + 258 * q by omega, <- List.drop_drop, List.drop_left]
      exact h2 q (by simpa using h)
theorem chunk_len (t : Int -> ByteArray) (h : ∀ i, (t i).size = 256) (i : Nat) : (chunk t i).length = 258 := by
  unfold chunk
  rw [List.length_cons, List.length_cons, Array.length_toList]
  have := h (i : Int)
  show (t _).size + 1 + 1 = 258
  omega
theorem write_used {P : TS} (ho : P.op = true) (hc : P.cnt <= 47) (i : Nat) (h1 : firstD P.n <= i) (h2 : i < P.n) (hb : bt P.bits i = true) (s : ByteArray) (hs : s.size = 256) :
    P.write (i : Int) s = (0, P.over [((i : Int), s)]) /\ (P.over [((i : Int), s)]).t i = s /\ (∀ j : Int, j ≠ i -> (P.over [((i : Int), s)]).t j = P.t j) /\ (P.over [((i : Int), s)]).bits = P.bits /\ (P.over [((i : Int), s)]).n = P.n := by
  obtain ⟨o1, _, o3, _, _⟩ := P.over_n [((i : Int), s)]
  refine ⟨?_, (over_at P [((i : Int), s)] (by simp) ((i : Int), s) (by simp)).1, fun j hj => (over_not P _ j fun x hx e => hj (by rw [List.mem_singleton.1 hx] at e; exact e.symm)).1, o3, o1⟩
  have hl : (([((i : Int), s)] : List (Int × ByteArray)).filter fun x => !P.d x.1).length <= 1 := List.length_filter_le _ _
  unfold write data touch
  rw [if_neg (by rw [ho]; simp), if_neg (by simp; omega), if_neg (by rw [gb_nat, hb]; simp), if_neg (by omega), if_neg (by omega)]
end TS
end Go.Proofs.YthambopnmhkeeaaGreat
/- A store in plain lists: the runs of what is turned round are the blocks that are used. -/
namespace Go.Proofs.YthambopnmhkeeaaGreat
open Bm

theorem rs_last {l : List UInt8} {k : Nat} (h0 : 0 < k) (hp : bt l (k - 1) = false) : ∃ R s c, rs l k = R ++ [(s, c)] /\ s + c = k := by
  have hok := rs_ok l k
  rcases List.eq_nil_or_concat (rs l k) with e | ⟨R, x, e⟩
  . rw [e] at hok
    have := hok (k - 1) (by omega) (by omega)
    rw [hp] at this; cases this
  . rw [List.concat_eq_append] at e
    refine ⟨R, x.1, x.2, e, ?_⟩
    rw [e] at hok
    have : ∀ (R : List (Nat × Nat)) (e : Int), RO l k e (R ++ [x]) -> x.1 + x.2 = k := by
      intro R
      induction R with
      | nil =>
        intro e h
        obtain ⟨_, h2, h3, _, _, _, h7, h8⟩ := h
        by_cases hh : x.1 + x.2 < k
        . have h9 : ∀ q : Nat, ((x.1 + x.2 : Nat) : Int) < q -> q < k -> bt l q = true := h8
          by_cases e1 : x.1 + x.2 = k - 1
          . have := h7 hh; rw [e1, hp] at this; cases this
          . have := h9 (k - 1) (by omega) (by omega); rw [hp] at this; cases this
        . omega
      | cons y R ih =>
        intro e h
        exact ih _ h.2.2.2.2.2.2.2
    exact this R _ hok
theorem rs_blocks (l : List UInt8) (m : Nat) : (rs l m).flatMap (fun x => List.range' x.1 x.2) = (List.range m).filter fun i => !bt l i := by
  induction m with
  | zero => rfl
  | succ m ih =>
    rw [List.range_succ, List.filter_append, rs]
    by_cases h : bt l m = true
    . rw [if_pos h, ih, List.filter_cons_of_neg (by rw [h]; simp)]; simp
    . have hb : bt l m = false := by simpa using h
      rw [if_neg h, List.filter_cons_of_pos (by rw [hb]; rfl), List.filter_nil]
      by_cases h2 : m = 0 \/ bt l (m - 1) = true
      . rw [if_pos h2, bump_snoc, List.flatMap_append, ih]
        simp
      . rw [if_neg h2]
        obtain ⟨R, s, c, e, hsc⟩ := rs_last (l := l) (k := m) (by omega) (by cases hq : bt l (m - 1) with | false => rfl | true => exact absurd (.inr hq) h2)
        rw [e] at ih ⊢
        rw [bump_snoc]
        rw [List.flatMap_append] at ih ⊢
        simp only [List.flatMap_cons, List.flatMap_nil, List.append_nil] at ih ⊢
        rw [List.range'_concat, <- List.append_assoc, ih]
        congr 2
        omega
def turnB (l : List UInt8) : List UInt8 := l.map fun b => ~~~b
theorem not_bits_all : ∀ b : Fin 256, ∀ k : Fin 8, (~~~(UInt8.ofNat b.1)).toNat.testBit k.1 = !b.1.testBit k.1 := by decide +kernel
theorem bt_turnB (l : List UInt8) (i : Nat) (h : i < 8 * l.length) : bt (turnB l) i = !bt l i := by
  have hq : i / 8 < l.length := by omega
  unfold bt turnB
  have e1 : (l.map fun b => ~~~b).getD (i / 8) 0 = ~~~l[i / 8] := by simp [List.getD, hq]
  have e2 : l.getD (i / 8) 0 = l[i / 8] := by simp [List.getD, hq]
  rw [e1, e2]
  have := not_bits_all ⟨l[i / 8].toNat, l[i / 8].toNat_lt⟩ ⟨i % 8, by omega⟩
  simpa using this
namespace TS
theorem Ok.used_runs {P : TS} (h : P.Ok) : (rs (stL (turnB P.bits) 0 true (firstD P.n)) P.n).flatMap (fun x => List.range' x.1 x.2) = P.usedL := by
  have hl := h.len
  have hn0 := h.n0
  have hn1 := h.n1
  have hlt : (turnB P.bits).length = 256 * nbM P.n := by unfold turnB; rw [List.length_map]; exact hl
  have hf : 0 + firstD P.n <= 8 * (turnB P.bits).length := by rw [hlt]; unfold firstD nbM; omega
  rw [rs_blocks]
  unfold usedL
  refine List.filter_congr fun i hi => ?_
  have hi := List.mem_range.1 hi
  have hi8 : i < 8 * P.bits.length := by rw [hl]; unfold nbM; omega
  rw [bt_stL _ _ _ _ _ hf]
  by_cases h1 : firstD P.n <= i
  . rw [if_neg (by omega), bt_turnB _ _ hi8]; simp [h1]
  . rw [if_pos (by omega)]; simp [h1]
def emptyM (n : Nat) : List UInt8 := stL (List.replicate (256 * nbM n) 0) 0 true (firstD n)
theorem empty_len (n : Nat) : (emptyM n).length = 256 * nbM n := by unfold emptyM; rw [stL_length, List.length_replicate]
theorem bt_zero (m i : Nat) : bt (List.replicate m 0) i = false := by
  unfold bt
  have : (List.replicate m (0 : UInt8)).getD (i / 8) 0 = 0 := by
    simp only [List.getD, List.getElem?_replicate]; split <;> rfl
  rw [this]; simp
theorem empty_bt (n : Nat) (h : firstD n <= n) (i : Nat) : bt (emptyM n) i = decide (i < firstD n) := by
  unfold emptyM
  rw [bt_stL _ _ _ _ _ (by rw [List.length_replicate]; unfold nbM; omega), bt_zero]
  by_cases h1 : i < firstD n
  . rw [if_pos (by omega)]; simp [h1]
  . rw [if_neg (by omega)]; simp [h1]
theorem right_map (n : Nat) (h0 : 128 <= n) (h1 : n <= 4096) (l : List UInt8) (hl : l.length = 256 * nbM n) : stL l (firstD n) false (n - firstD n) = emptyM n ↔ (∀ i, i < firstD n -> bt l i = true) /\ ∀ i, n <= i -> bt l i = false := by
  have hf : firstD n <= n := by unfold firstD nbM; omega
  have hfit : firstD n + (n - firstD n) <= 8 * l.length := by rw [hl]; unfold nbM; omega
  constructor
  . intro e
    have hb : ∀ i, bt (stL l (firstD n) false (n - firstD n)) i = bt (emptyM n) i := fun i => by rw [e]
    refine ⟨fun i hi => ?_, fun i hi => ?_⟩
    . have := hb i
      rw [bt_stL _ _ _ _ _ hfit, if_neg (by omega), empty_bt n hf] at this
      rw [this]; simp [hi]
    . have := hb i
      rw [bt_stL _ _ _ _ _ hfit, if_neg (by omega), empty_bt n hf] at this
      rw [this]; simp; omega
  . rintro ⟨a, b⟩
    refine bt_ext (by rw [stL_length, empty_len, hl]) fun i _ => ?_
    rw [bt_stL _ _ _ _ _ hfit, empty_bt n hf]
    by_cases h2 : i < firstD n
    . rw [if_neg (by omega), a i h2]; simp [h2]
    . by_cases h3 : n <= i
      . rw [if_neg (by omega), b i h3]; simp [h2]
      . rw [if_pos (by omega)]; simp [h2]
def opened (n : Nat) (H : Int -> ByteArray) : TS := ⟨n, H, H, fun _ => false, mapT n H, mapT n H, false⟩
theorem opened_ok (n : Nat) (H : Int -> ByteArray) (h0 : 128 <= n) (h1 : n <= 4096) (hs : ∀ i, (H i).size = 256) (hm : stL (mapT n H) (firstD n) false (n - firstD n) = emptyM n) : (opened n H).Ok := by
  obtain ⟨a, b⟩ := (right_map n h0 h1 _ (mapT_len n H hs)).1 hm
  refine ⟨h0, h1, fun _ _ => rfl, fun _ _ => rfl, (fun _ hi => by cases hi), hs, hs, rfl, rfl, fun i hi => ⟨a i hi, a i hi⟩, fun i hi => ⟨b i hi, b i hi⟩, ?_⟩
  have : (opened n H).cnt = 0 := List.countP_eq_zero.2 fun i _ => by show ¬ (false = true); simp
  omega
theorem fr_zero (l : List UInt8) (m : Nat) : fr l m = 0 ↔ ∀ i, i < m -> bt l i = true := by
  rw [fr_count, List.countP_eq_zero]
  constructor
  . intro h i hi
    have := h i (List.mem_range.2 hi)
    simpa using this
  . intro h i hi
    have := h i (List.mem_range.1 hi)
    simp [this]
end TS
end Go.Proofs.YthambopnmhkeeaaGreat
/- What Format makes of a new device, in plain lists. -/
namespace Go.Proofs.YthambopnmhkeeaaGreat
open Go.RowKit
open Bm

def labelL (n : Nat) : List UInt8 := [67, 68, 88, 66] ++ (Fr.fixL n ++ List.replicate 248 0)
def labelB (n : Nat) : ByteArray := Fr.bs (labelL n)
theorem labelB_size (n : Nat) : (labelB n).size = 256 := by
  unfold labelB labelL
  rw [Fr.bs_len]
  simp only [List.length_append, Fr.fixL_len, List.length_replicate, List.length_cons, List.length_nil]
def mapWr (n : Nat) (l : List UInt8) : List Wr := (List.range (nbM n)).map fun k => (((63 + k : Nat) : Int), txt (blkM l k))
def fmtW (n : Nat) : List Wr := ((62 : Int), labelB n) :: mapWr n (TS.emptyM n)
def H0 (n : Nat) : Int -> ByteArray := fun i => if i = 62 then labelB n else if 63 <= i /\ i < firstD n then txt (blkM (TS.emptyM n) (i - 63).toNat) else noughts
theorem txt_size (l : List UInt8) : (txt l).size = l.length := by unfold txt; show l.toArray.size = _; rw [List.size_toArray]
theorem txt_data (l : List UInt8) : (txt l).data.toList = l := rfl
theorem H0_size (n : Nat) (i : Int) : (H0 n i).size = 256 := by
  unfold H0
  split
  . exact labelB_size n
  . split
    . rename_i h
      rw [txt_size]
      exact blk_len (TS.empty_len n) (by unfold firstD at h; omega)
    . exact noughts_size
theorem mapWr_mem {n : Nat} {l : List UInt8} {x : Wr} (h : x ∈ mapWr n l) : ∃ k, k < nbM n /\ x = (((63 + k : Nat) : Int), txt (blkM l k)) := by
  obtain ⟨k, hk, rfl⟩ := List.mem_map.1 h
  exact ⟨k, List.mem_range.1 hk, rfl⟩
theorem fmtW_mem {n : Nat} (hn : 128 <= n) {x : Wr} (h : x ∈ fmtW n) : 62 <= x.1 /\ x.1 < n /\ x.2.size = 256 /\ x.2 = H0 n x.1 := by
  rcases List.mem_cons.1 h with rfl | h
  . exact ⟨by omega, by dsimp only; omega, labelB_size n, by unfold H0; rw [if_pos rfl]⟩
  . obtain ⟨k, hk, rfl⟩ := mapWr_mem h
    have hnb : nbM n = (n + 2047) / 2048 := rfl
    refine ⟨by dsimp only; omega, by dsimp only; omega, by dsimp only; rw [txt_size]; exact blk_len (TS.empty_len n) hk, ?_⟩
    unfold H0 firstD
    dsimp only
    rw [if_neg (by omega), if_pos (by omega)]
    congr 3
    omega
theorem fmtW_len (n : Nat) : (fmtW n).length = nbM n + 1 := by unfold fmtW mapWr; simp
theorem fmtW_all {n : Nat} {b : Nat} (h : ∀ x ∈ fmtW n, x.1 ≠ b) : noughts = H0 n b := by
  have h1 : (b : Int) ≠ 62 := fun e => h _ (List.mem_cons_self ..) e.symm
  unfold H0
  rw [if_neg h1]
  split
  . rename_i hb
    exfalso
    refine h (((63 + (b - 63) : Nat) : Int), txt (blkM (TS.emptyM n) (b - 63))) (List.mem_cons_of_mem _ (List.mem_map.2 ⟨b - 63, List.mem_range.2 (by unfold firstD at hb; omega), rfl⟩)) ?_
    dsimp only; omega
  . rfl
theorem H0_map (n : Nat) : mapT n (H0 n) = TS.emptyM n := by
  refine mapT_of _ _ _ (TS.empty_len n) fun k hk => ?_
  unfold H0
  rw [if_neg (by omega), if_pos (by unfold firstD; omega)]
  rw [txt_data]
  congr 1
  omega

theorem formed (n : Nat) (h1 : 128 <= n) (h2 : n <= 4096) : ∃ DF DO DC J2 F G, (DevS.made n).fmt 60 = (0, DF) /\ DF.pend = [] /\ DF.opn = (0, DO, some Jb) /\ DO.pend = [] /\ Jb.Ok DO.disk.length /\ Jb.commit DO (fmtW n) = (0, DC, J2) /\ Sync 4 n J2 DC G F /\
    (∀ b : Nat, 62 <= b -> b < n -> G b = H0 n b) /\ DC.fused = false /\ DC.pend.length <= 200 := by
  obtain ⟨f1, f2, _, _, _, _⟩ := fmt_rec n (by omega) h2
  obtain ⟨s1, s2, s3, s4⟩ := begin_sync n (by omega) h2
  have hhome : Jb.home = 62 := rfl
  have hnb : nbM n = (n + 2047) / 2048 := rfl
  have hc : Jb.chk n (fmtW n) = 0 := (Jb.chk_ok n _).2 ⟨by rw [fmtW_len]; omega, by rw [fmtW_len]; omega, fun x hx => by
    obtain ⟨g1, g2, g3, _⟩ := fmtW_mem h1 hx
    exact ⟨by rw [hhome]; exact g1, g2, g3⟩⟩
  obtain ⟨c1, ⟨F', c2⟩, _, c4⟩ := commit_sure s2 (by omega) hc s4
  refine ⟨((DevS.made n).fmt 60).2, Db n, (Jb.commit (Db n) (fmtW n)).2.1, (Jb.commit (Db n) (fmtW n)).2.2, _, _, Prod.ext f1 rfl, f2, s1, s3, by rw [s2.pre.len]; exact s2.pre.good.ok, Prod.ext c1 (Prod.ext rfl rfl), c2, fun b hb hbn => ?_, c4, ?_⟩
  . refine put_is (fun x hx => ?_) fun h => fmtW_all h
    obtain ⟨g1, _, _, g4⟩ := fmtW_mem h1 hx
    exact ⟨by omega, g4⟩
  . have := commit_len Jb (Db n) (fmtW n)
    rw [s3, fmtW_len] at this
    simp only [List.length_nil] at this
    omega
end Go.Proofs.YthambopnmhkeeaaGreat
/- What a steady journal's Read, sound, mend, asTold and Commit answer and leave, while the power is there. -/
namespace Go.Proofs.YthambopnmhkeeaaGreat
open Go.RowKit
open Fr (SlW OwnW WritesAt)

section
variable {S SD T : Nat -> Prop} {w w' : World} {h j p n N : Nat} {H : Int -> ByteArray} {sv : Value} {L M : List Wr} {J : JS} {D : DevS} {F : List (List Wr)} {G : Nat -> ByteArray}
theorem sl_cells {ao : Option Addr} {c q : Nat} (hs : SlW w (.slice ao q c) M) (hq : M.length = q) : ∀ k (hk : k < M.length), ∃ b off, ao = some ⟨b, off, none⟩ /\ b < w.heap.size /\ w.cell? ⟨b, off + k * 2, none⟩ = some (.int .i64 M[k].1) /\ w.cell? ⟨b, off + k * 2 + 1, none⟩ = some (.string M[k].2) := by
  intro k hk
  obtain ⟨b, off, c', hv, _, hb, hc⟩ := hs.here (by omega)
  have : ao = some ⟨b, off, none⟩ := by simpa using congrArg (fun v => match v with | Value.slice a _ _ => a | _ => none) hv
  exact ⟨b, off, this, hb, (hc k hk).1, (hc k hk).2⟩
set_option maxRecDepth 100000 in
set_option maxHeartbeats 1000000 in
theorem hread_any (m : Hm S SD w h j p n N H sv L J D F G) (i : Int) (h1 : 62 <= i) (h2 : i < n) :
    Calls Tryz.prog 198 #[.pointer (some ⟨h, 0, none⟩), .int .i64 i] w fun e w' => e = .returned (.tuple #[.string (H i), .int .i64 0]) /\ Below w.heap.size w w' := by
  have c0 := m.c0; have c1 := m.c1
  have cj := m.jr.c0
  have hhl := m.hlt
  have hjl := m.jr.lt
  have hfew := m.few
  have HSU : Hid (∀ k (hk : k < L.length), L[k].1 = i -> L[k].2 = H i) := fun k hk e => by rw [(m.sure _ (List.getElem_mem hk)).2.2, e]
  have CR : Hid (∀ W, Below w.heap.size w W -> Calls Tryz.prog 147 #[.pointer (some ⟨p, 0, none⟩), .int .i64 i] W fun e w' => e = .returned (.tuple #[.string (H i), .int .i64 0]) /\ Below W.heap.size W w') := fun W hW => by
    have := read_any i (by have := m.pd'; omega) (m.dev.below hW)
    rw [m.rd i h1 h2] at this; exact this
  have hsl := m.sl
  obtain ⟨ao, c, hv, _⟩ := hsl
  have hsl2 := m.sl
  rw [hv] at hsl2
  have HC := Lib.hid (sl_cells hsl2 rfl)
  rw [hv] at c1
  clear hsl2 m hv
  obtain ⟨q, hq⟩ : ∃ q, L.length = q := ⟨_, rfl⟩
  rw [hq] at c1 hfew
  have HQ := Lib.hid hq
  clear hq
  generalize H i = V at *
  go_enter Tryz.func198, Tryz.ntmps198
  go_wp2_with fail
  go_loopw [13] (fun v wr => ∃ k : Nat, k <= q /\ v = .int .i64 k /\ Hid (Below w.heap.size w wr)) (fun i _ => q - (intOf i).toNat)
  case atStart => exact ⟨0, Nat.zero_le _, rfl, Below.refl _ _⟩
  case round =>
    obtain ⟨k, hk, rfl, HB⟩ := hrel
    by_cases hlt : k < q
    . have hkL : k < L.length := by rw [HQ.out]; exact hlt
      obtain ⟨b, off, hao, hbl, d0, d1⟩ := HC.out k hkL
      subst hao
      have hbw : Below wr.heap.size wr (wr.alloc (.cells #[.int .i64 L[k].1, .string L[k].2] 63)) := (Below.refl _ _).alloc (Nat.le_refl _) _
      have e0 : wr.cell? ⟨b, off + k * 2, none⟩ = some (.int .i64 L[k].1) := (HB.out.cell (p := ⟨b, off + k * 2, none⟩) hbl).trans d0
      have e1 : wr.cell? ⟨b, off + k * 2 + 1, none⟩ = some (.string L[k].2) := (HB.out.cell (p := ⟨b, off + k * 2 + 1, none⟩) hbl).trans d1
      have HB2 : Hid (Below w.heap.size w (wr.alloc (.cells #[.int .i64 L[k].1, .string L[k].2] 63))) := HB.out.trans (hbw.mono HB.out.size)
      have HS2 := Lib.hid (HSU.out k hkL)
      clear d0 d1 hbw
      generalize L[k] = x at *
      obtain ⟨xb, xd⟩ := x
      dsimp only at e0 e1 HB2 HS2
      by_cases he : xb = i
      . subst he
        have HV := Lib.hid (HS2.out rfl)
        clear HS2
        go_wp2
        go_ret2
        exact ⟨by rw [HV.out]; rfl, HB2.out⟩
      . have he' : (xb == i) = false := beq_eq_false_iff_ne.2 he
        clear HS2 he
        go_wp2
        go_roundw
        case rel => exact ⟨k + 1, by omega, by go_num, HB2.out⟩
        case measure => simp [intOf]; omega
    . have b0 : wr.cell? ⟨h, 0, none⟩ = some (.pointer (some ⟨j, 0, none⟩)) := (HB.out.cell (p := ⟨h, 0, none⟩) hhl).trans c0
      have b1 : wr.cell? ⟨j, 0, none⟩ = some (.pointer (some ⟨p, 0, none⟩)) := (HB.out.cell (p := ⟨j, 0, none⟩) hjl).trans cj
      clear c0 c1 cj
      go_wp2_with fail
      refine (CR.out _ HB.out).mono ?_
      rintro e w1 ⟨rfl, hb1⟩
      have HB1 := Lib.hid (HB.out.trans (hb1.mono HB.out.size)); clear hb1
      go_wp2
      go_ret2
      exact ⟨rfl, HB1.out⟩

set_option maxRecDepth 100000 in
set_option maxHeartbeats 2000000 in
theorem hsound_any (m : Hm S SD w h j p n N H sv L J D F G) : Calls Tryz.prog 195 #[.pointer (some ⟨h, 0, none⟩)] w fun e w' => e = .returned (.bool true) /\ Below w.heap.size w w' := by
  have c0 := m.c0; have c1 := m.c1; have c2 := m.c2
  have cj := m.jr.c0
  have hhl := m.hlt
  have hjl := m.jr.lt
  have hfew := m.few
  have CR : Hid (∀ k (hk : k < L.length) W, Below w.heap.size w W -> Calls Tryz.prog 147 #[.pointer (some ⟨p, 0, none⟩), .int .i64 L[k].1] W fun e w' => e = .returned (.tuple #[.string L[k].2, .int .i64 0]) /\ Below W.heap.size W w') := fun k hk W hW => by
    have := read_any L[k].1 (by have := m.pd'; omega) (m.dev.below hW)
    obtain ⟨s1, s2, s3⟩ := m.sure _ (List.getElem_mem hk)
    rw [m.rd _ s1 s2, <- s3] at this; exact this
  have hsl := m.sl
  obtain ⟨ao, c, hv, _⟩ := hsl
  have hsl2 := m.sl
  rw [hv] at hsl2
  have HC := Lib.hid (sl_cells hsl2 rfl)
  rw [hv] at c1
  clear hsl2 m hv
  obtain ⟨q, hq⟩ : ∃ q, L.length = q := ⟨_, rfl⟩
  rw [hq] at c1 hfew
  have HQ := Lib.hid hq
  clear hq
  go_enter Tryz.func195, Tryz.ntmps195
  go_wp2_with fail
  go_loopw [12] (fun v wr => ∃ k : Nat, k <= q /\ v = .int .i64 k /\ Hid (Below w.heap.size w wr)) (fun i _ => q - (intOf i).toNat)
  case atStart => exact ⟨0, Nat.zero_le _, rfl, Below.refl _ _⟩
  case round =>
    obtain ⟨k, hk, rfl, HB⟩ := hrel
    have b0 : wr.cell? ⟨h, 0, none⟩ = some (.pointer (some ⟨j, 0, none⟩)) := (HB.out.cell (p := ⟨h, 0, none⟩) hhl).trans c0
    have b1 : wr.cell? ⟨j, 0, none⟩ = some (.pointer (some ⟨p, 0, none⟩)) := (HB.out.cell (p := ⟨j, 0, none⟩) hjl).trans cj
    have b2 : wr.cell? ⟨h, 2, none⟩ = some (.slice none 0 0) := (HB.out.cell (p := ⟨h, 2, none⟩) hhl).trans c2
    have hbr := HB.out.size
    clear c0 c1 cj c2
    by_cases hlt : k < q
    . have hkL : k < L.length := by rw [HQ.out]; exact hlt
      obtain ⟨b, off, hao, hbl, d0, d1⟩ := HC.out k hkL
      subst hao
      have hbw : Below wr.heap.size wr (wr.alloc (.cells #[.int .i64 L[k].1, .string L[k].2] 63)) := (Below.refl _ _).alloc (Nat.le_refl _) _
      have e0 : wr.cell? ⟨b, off + k * 2, none⟩ = some (.int .i64 L[k].1) := (HB.out.cell (p := ⟨b, off + k * 2, none⟩) hbl).trans d0
      have e1 : wr.cell? ⟨b, off + k * 2 + 1, none⟩ = some (.string L[k].2) := (HB.out.cell (p := ⟨b, off + k * 2 + 1, none⟩) hbl).trans d1
      have HB2 : Hid (Below w.heap.size w (wr.alloc (.cells #[.int .i64 L[k].1, .string L[k].2] 63))) := HB.out.trans (hbw.mono HB.out.size)
      have CR2 := Lib.hid (CR.out k hkL)
      clear d0 d1
      generalize L[k] = x at *
      obtain ⟨xb, xd⟩ := x
      dsimp only at e0 e1 HB2 CR2 hbw
      obtain ⟨X, hX⟩ : ∃ X, wr.alloc (.cells #[.int .i64 xb, .string xd] 63) = X := ⟨_, rfl⟩
      have x0 : X.cell? ⟨wr.heap.size, 0, none⟩ = some (.int .i64 xb) := by rw [<- hX, cell_at (heap_alloc_new ..)]; rfl
      have x1 : X.cell? ⟨wr.heap.size, 1, none⟩ = some (.string xd) := by rw [<- hX, cell_at (heap_alloc_new ..)]; rfl
      have xh : X.cell? ⟨h, 0, none⟩ = some (.pointer (some ⟨j, 0, none⟩)) := by rw [<- hX]; exact (hbw.cell (p := ⟨h, 0, none⟩) (by show h < _; omega)).trans b0
      have xj : X.cell? ⟨j, 0, none⟩ = some (.pointer (some ⟨p, 0, none⟩)) := by rw [<- hX]; exact (hbw.cell (p := ⟨j, 0, none⟩) (by show j < _; omega)).trans b1
      have hXz : X.heap.size = wr.heap.size + 1 := by rw [<- hX]; simp
      have HBX : Hid (Below w.heap.size w X) := by show Below _ _ _; rw [<- hX]; exact HB2.out
      have HKeep : Hid (∀ W, Below X.heap.size X W -> W.cell? ⟨h, 0, none⟩ = some (.pointer (some ⟨j, 0, none⟩)) /\ W.cell? ⟨j, 0, none⟩ = some (.pointer (some ⟨p, 0, none⟩)) /\ W.cell? ⟨wr.heap.size, 0, none⟩ = some (.int .i64 xb) /\ W.cell? ⟨wr.heap.size, 1, none⟩ = some (.string xd)) := fun W hW =>
        ⟨(hW.cell (p := ⟨h, 0, none⟩) (by show h < _; omega)).trans xh, (hW.cell (p := ⟨j, 0, none⟩) (by show j < _; omega)).trans xj, (hW.cell (p := ⟨wr.heap.size, 0, none⟩) (by show wr.heap.size < _; omega)).trans x0, (hW.cell (p := ⟨wr.heap.size, 1, none⟩) (by show wr.heap.size < _; omega)).trans x1⟩
      have hne : (xd.toList == xd.toList) = true := by simp
      have HX := Lib.hid hX
      clear hX HB2 hbw b0 b1
      go_wp2_with fail
      rw [HX.out]
      go_region_held3 (fun W => W.cell? ⟨h, 0, none⟩ = some (.pointer (some ⟨j, 0, none⟩)) /\ W.cell? ⟨j, 0, none⟩ = some (.pointer (some ⟨p, 0, none⟩)) /\ W.cell? ⟨wr.heap.size, 0, none⟩ = some (.int .i64 xb) /\ W.cell? ⟨wr.heap.size, 1, none⟩ = some (.string xd))
        (first | exact ⟨xh, xj, x0, x1⟩ | exact HKeep.out _ ((Below.refl X.heap.size X).drew.trans (by assumption)))
        (first | (go_at_call 147; refine (CR2.out _ (HBX.out.trans ((Below.refl _ _).drew.mono HBX.out.size))).mono ?_; rintro e w' ⟨rfl, hb3⟩))
      have hbX : Below X.heap.size X w' := (Below.refl X.heap.size X).drew.trans hb3
      obtain ⟨_, _, _, y1⟩ := HKeep.out w' hbX
      have HBn : Hid (Below w.heap.size w w') := HBX.out.trans (hbX.mono HBX.out.size)
      clear hb3 hbX x0 x1 xh xj
      go_wp2
      go_roundw
      case rel => exact ⟨k + 1, by omega, by go_num, HBn.out⟩
      case measure => simp [intOf]; omega
    . clear b0 b1
      go_wp2
      go_ret
      exact ⟨rfl, HB.out⟩

theorem writes_cells {b off : Nat} (hc : WritesAt w b off M) : ∀ i u, (Fr.flatI M)[i]? = some u -> w.cell? ⟨b, off + i, none⟩ = some u := by
  intro i u hu
  have hi : i < M.length * 2 := by have := (List.getElem?_eq_some_iff.1 hu).1; rwa [Fr.flatI_length] at this
  obtain ⟨k, hk | hk⟩ : ∃ k, i = k * 2 \/ i = k * 2 + 1 := ⟨i / 2, by omega⟩
  . subst hk
    rw [Fr.flatI_fst M k (by omega)] at hu
    cases hu
    exact (hc k (by omega)).1
  . subst hk
    rw [Fr.flatI_snd M k (by omega)] at hu
    cases hu
    exact (hc k (by omega)).2
set_option maxRecDepth 100000 in
set_option maxHeartbeats 2000000 in
theorem hastold_any (m : Hm S SD w h j p n N H sv L J D F G) (b off c : Nat) (hb : b < w.heap.size) (hc : WritesAt w b off M) (hM : ∀ x ∈ M, 62 <= x.1 /\ x.1 < n) (hl : M.length <= 1000) :
    Calls Tryz.prog 161 #[.pointer (some ⟨h, 0, none⟩), .slice (some ⟨b, off, none⟩) M.length c] w fun e w' => ∃ u, e = .returned u /\ Hid (Below w.heap.size w w') := by
  obtain ⟨i0, hi, hz0, hz1, hz2⟩ := info_parts Tryz.infoW
  have HCl := Lib.hid (Tryz.cloneW i0 _ 2 24 hi hz0 hz1 hz2 rfl (by decide) Tryz.sizeOf63 b off M.length c (Fr.flatI M) w (Fr.flatI_length _) (by unfold maxLen; omega) (by omega) (writes_cells hc) (Fr.flatI_one _))
  clear hi hz0 hz1 hz2
  have CR : Hid (∀ k (hk : k < M.length) W, Below w.heap.size w W -> Calls Tryz.prog 198 #[.pointer (some ⟨h, 0, none⟩), .int .i64 M[k].1] W fun e w' => e = .returned (.tuple #[.string (H M[k].1), .int .i64 0]) /\ Below W.heap.size W w') := fun k hk W hW =>
    hread_any (m.below hW) _ (hM _ (List.getElem_mem hk)).1 (hM _ (List.getElem_mem hk)).2
  have HC := Lib.hid hc
  clear hc m
  obtain ⟨q, hq⟩ : ∃ q, M.length = q := ⟨_, rfl⟩
  rw [hq] at hl HCl ⊢
  have HQ := Lib.hid hq
  clear hq
  go_enter Tryz.func161, Tryz.ntmps161
  go_wp2_with fail
  refine HCl.out.mono ?_
  rintro e w1 ⟨u, rfl, hu1, hu2, hb1⟩
  have HB1 := Lib.hid hb1
  have HO1 : Hid (OwnW w.heap.size w1 u M) := by show w1.ownsRow _ _ _ _ _ _; rw [HQ.out]; exact hu1
  clear hu1 hu2 hb1 HCl
  obtain ⟨uo, uc, hu⟩ : ∃ uo uc, u = .slice uo q uc := by
    obtain ⟨a, cc, e⟩ := own_shape HO1.out
    exact ⟨a, cc, by rw [e, HQ.out]⟩
  subst hu
  go_wp2_with fail
  go_loopw [12] (fun v wr => ∃ (k : Nat) (M' : List Wr), k <= q /\ v = .int .i64 k /\ Hid (M'.length = q) /\ Hid (OwnW w.heap.size wr (.slice uo q uc) M') /\ Hid (Below w.heap.size w wr)) (fun i _ => q - (intOf i).toNat)
  case atStart => exact ⟨0, M, Nat.zero_le _, rfl, HQ.out, HO1.out, HB1.out⟩
  case round =>
    clear HO1 HB1
    obtain ⟨k, M', hk, rfl, HL', HO, HB⟩ := hrel
    by_cases hlt : k < q
    . have hkL : k < M.length := by rw [HQ.out]; exact hlt
      have hbr := HB.out.size
      have d0 : wr.cell? ⟨b, off + k * 2, none⟩ = some (.int .i64 M[k].1) := (HB.out.cell (p := ⟨b, off + k * 2, none⟩) hb).trans (HC.out k hkL).1
      have d1 : wr.cell? ⟨b, off + k * 2 + 1, none⟩ = some (.string M[k].2) := (HB.out.cell (p := ⟨b, off + k * 2 + 1, none⟩) hb).trans (HC.out k hkL).2
      have CR2 := Lib.hid (CR.out k hkL)
      obtain ⟨g, c', hv, hgc, hgB, hgl, _, hgf⟩ := HO.out.here (by rw [HL'.out]; omega)
      obtain ⟨rfl, rfl⟩ : uo = some ⟨g, 0, none⟩ /\ uc = c' := by
        have := HL'.out
        simp only [Value.slice.injEq] at hv
        exact ⟨hv.1, hv.2.2⟩
      have hgc' : q <= uc := by rw [<- HL'.out]; exact hgc
      clear hv hgc
      generalize M[k] = x at *
      obtain ⟨xb, xd⟩ := x
      dsimp only at d0 d1 CR2
      have hbw : Below wr.heap.size wr (wr.alloc (.cells #[.int .i64 xb, .string xd] 63)) := (Below.refl _ _).alloc (Nat.le_refl _) _
      generalize H xb = V at *
      go_wp2_with fail
      refine (CR2.out _ (HB.out.trans (hbw.mono hbr))).mono ?_
      rintro e w2 ⟨rfl, hb2⟩
      have hbz : wr.heap.size + 1 <= w2.heap.size := by have := hb2.size; simpa using this
      have HB2 : Hid (Below wr.heap.size wr w2) := hbw.trans (hb2.mono (by simp))
      have HO2 : Hid (OwnW w.heap.size w2 (.slice (some ⟨g, 0, none⟩) q uc) M') := HO.out.below HB2.out
      have hf2 : w2.frozen? ⟨g, k * 2 + 1, none⟩ = false := by rw [HB2.out.frozen (p := ⟨g, k * 2 + 1, none⟩) hgl]; exact hgf _
      have hc2 : ∃ vv, w2.cell? ⟨g, k * 2 + 1, none⟩ = some vv := by
        obtain ⟨g', c'', hv', _, _, _, hcs, _⟩ := HO2.out.here (by rw [HL'.out]; omega)
        have : g' = g := by simp only [Value.slice.injEq, Option.some.injEq, Addr.mk.injEq] at hv'; exact hv'.1.1.symm
        subst this
        have := (hcs k (by rw [HL'.out]; exact hlt)).2
        rw [Nat.zero_add] at this
        exact ⟨_, this⟩
      obtain ⟨vv, hcv⟩ := hc2
      have HO3 := Lib.hid (HO2.out.storeN HL'.out k (by rw [HL'.out]; exact hlt) V rfl)
      have HB3 : Hid (Below w.heap.size w (w2.setCell ⟨g, k * 2 + 1, none⟩ (.string V))) := (HB.out.trans (HB2.out.mono hbr)).setCell hgB _
      have HL3 : Hid ((M'.set k (M'[k]'(by rw [HL'.out]; exact hlt) |>.1, V)).length = q) := by show _ = _; rw [List.length_set]; exact HL'.out
      clear hb2 hbw HB2 HO2 HO d0 d1
      go_wp2
      go_roundw
      case rel => exact ⟨k + 1, _, by omega, by go_num, HL3.out, HO3.out, HB3.out⟩
      case measure => simp [intOf]; omega
    . go_wp2
      go_ret
      exact ⟨_, rfl, HB.out⟩

set_option maxRecDepth 100000 in
set_option maxHeartbeats 400000 in
theorem hmend_any (m : Hm S SD w h j p n N H sv L J D F G) : Calls Tryz.prog 160 #[.pointer (some ⟨h, 0, none⟩)] w fun e w' => e = .returned (.int .i64 0) /\ Below w.heap.size w w' := by
  have HS := Lib.hid (hsound_any m)
  clear m
  go_enter Tryz.func160, Tryz.ntmps160
  go_wp2_with fail
  refine HS.out.mono ?_
  rintro e w1 ⟨rfl, hb1⟩
  have HB1 := Lib.hid hb1; clear hb1
  go_wp2
  go_ret
  exact ⟨rfl, HB1.out⟩

theorem Hm.committed (m : Hm S SD w h j p n N H sv L J D F G) {w2 w3 : World} {v : Value} {H' : Int -> ByteArray} (hb : Below w.heap.size w w2) (hs : SlW w v M) (hou : ∀ g off n c, v = .slice (some ⟨g, off, none⟩) n c -> ¬ S g /\ g < w.heap.size)
    (hM : ∀ x ∈ M, 62 <= x.1 /\ x.1 < n /\ x.2.size = 256) (h1 : 1 <= M.length) (h2 : M.length <= 48) (hN : N + 2 <= 10000) (hH : ∀ x ∈ M, x.2 = H' x.1) (hK : ∀ b : Nat, 62 <= b -> b < n -> (∀ x ∈ M, x.1 ≠ b) -> H b = H' b)
    (hv : JLeaves 104 SD w2 w3 j p (J.commit D M).2.1 (J.commit D M).2.2) :
    ∃ S', (∀ k, S' k -> S k \/ (∃ off n c, v = .slice (some ⟨k, off, none⟩) n c) \/ w.heap.size <= k) /\ Home S' (w3.setCell ⟨h, 1, none⟩ v) h p n (N + 2) H' /\ Only S w (w3.setCell ⟨h, 1, none⟩ v) := by
  obtain ⟨SD', g1, g2, g3, g4⟩ := hv
  have hzb := hb.size
  have hz3 := g4.size
  have hc : J.chk n M = 0 := (J.chk_ok n M).2 ⟨h1, h2, fun x hx => ⟨by rw [m.home]; exact (hM x hx).1, (hM x hx).2⟩⟩
  obtain ⟨_, ⟨F', c2⟩, _, c4⟩ := commit_sure m.sy (by omega) hc m.nf
  have hlen := commit_len J D M
  have hpd := m.pd
  have ho2 : Only S w w3 := (Only.of_below S hb (Nat.le_refl _)).trans g4 (fun k hk hh => by rcases hh with hh | hh; exact m.sd k hh; exact hh ▸ m.sj)
  have ho3 : Only (fun k => k = h) w3 (w3.setCell ⟨h, 1, none⟩ v) := (Only.refl (fun k => k = h) w3).setCell (p := ⟨h, 1, none⟩) (fun _ => rfl) v
  have hlh := m.hlt
  have hlj := m.jr.lt
  have hD' : ∀ k, k < w.heap.size -> SD' k -> SD k := fun k hk hd => by
    rcases g1 k hd with h | h
    . exact h
    . omega
  have hhh : w3.heap[h]? = w.heap[h]? := by
    rw [g4.block h (by omega) (fun hh => by rcases hh with hh | hh; exact m.dh hh; exact m.hj hh)]
    exact hb.block h hlh
  refine ⟨fun k => S k \/ (∃ off n c, v = .slice (some ⟨k, off, none⟩) n c) \/ SD' k, fun k hk => ?_, ⟨SD', j, v, M, _, _, _, _, ⟨?_, ?_, ?_, ?_, fun k hk => .inr (.inr hk), .inl m.sh, .inl m.sj, fun hh => m.dh (hD' h hlh hh), fun hh => m.dj (hD' j hlj hh), m.hj, fun g off n c hv => ?_, fun k hk => ?_, c2, fun b hb1 hb2 => ?_, fun x hx => ⟨(hM x hx).1, (hM x hx).2.1, hH x hx⟩, h2, by omega, c4, hN⟩⟩, ?_⟩
  . rcases hk with hk | hk | hk
    . exact .inl hk
    . exact .inr (.inl hk)
    . rcases g1 k hk with h | h
      . exact .inl (m.sd k h)
      . exact .inr (.inr (by omega))
  . rw [heap_setCell_at (hhh.trans m.hh)]; rfl
  . exact g3.only ho3 (fun e => m.hj e.symm)
  . exact g2.kept ho3 (fun k hk e => m.dh (hD' h hlh (e ▸ hk)))
  . exact SlW.only (SlW.only hs ho2 (fun g off n c hv hg => (hou g off n c hv).1 hg)) ho3 (fun g off n c hv e => (hou g off n c hv).1 (e ▸ m.sh))
  . obtain ⟨o1, o2⟩ := hou g off n c hv
    exact ⟨.inr (.inl ⟨off, n, c, hv⟩), fun hd => o1 (m.sd g (hD' g o2 hd)), fun e => o1 (e ▸ m.sh), fun e => o1 (e ▸ m.sj)⟩
  . have hz : (w3.setCell ⟨h, 1, none⟩ v).heap.size = w3.heap.size := by simp [World.setCell]
    rw [hz]
    rcases hk with hk | ⟨off, nn, c, hk⟩ | hk
    . have := m.lt k hk; omega
    . have := (hou k off nn c hk).2; omega
    . exact g2.lt k hk
  . refine put_is (fun x hx => ⟨by have := (hM x hx).1; omega, hH x hx⟩) fun hno => ?_
    rw [m.gh b hb1 hb2]; exact hK b hb1 hb2 hno
  . exact ho2.setCell (fun _ => m.sh) _

set_option maxRecDepth 100000 in
set_option maxHeartbeats 2000000 in
theorem hcommit_any (m : Hm S SD w h j p n N H sv L J D F G) {v : Value} {H' : Int -> ByteArray} (hs : SlW w v M) (hou : ∀ g off n c, v = .slice (some ⟨g, off, none⟩) n c -> ¬ S g /\ g < w.heap.size)
    (hM : ∀ x ∈ M, 62 <= x.1 /\ x.1 < n /\ x.2.size = 256) (h1 : 1 <= M.length) (h2 : M.length <= 48) (hN : N + 2 <= 10000) (hH : ∀ x ∈ M, x.2 = H' x.1) (hK : ∀ b : Nat, 62 <= b -> b < n -> (∀ x ∈ M, x.1 ≠ b) -> H b = H' b) :
    Calls Tryz.prog 101 #[.pointer (some ⟨h, 0, none⟩), v] w fun e w' => e = .returned (.int .i64 0) /\ ∃ S', (∀ k, S' k -> S k \/ (∃ off n c, v = .slice (some ⟨k, off, none⟩) n c) \/ w.heap.size <= k) /\ Home S' w' h p n (N + 2) H' /\ Only S w w' := by
  have c0 := m.c0
  have hhl := m.hlt
  have hfh := m.f 1
  have hc1 := m.c1
  have HM1 := Lib.hid (hmend_any m)
  obtain ⟨b, off, c, rfl, _, hbl, hcs⟩ := hs.here (by omega)
  have HT : Hid (∀ W, Below w.heap.size w W -> Calls Tryz.prog 161 #[.pointer (some ⟨h, 0, none⟩), .slice (some ⟨b, off, none⟩) M.length c] W fun e w' => ∃ u, e = .returned u /\ Hid (Below W.heap.size W w')) := fun W hW =>
    hastold_any (m.below hW) b off c (Nat.lt_of_lt_of_le hbl hW.size) (hcs.below hW hbl) (fun x hx => ⟨(hM x hx).1, (hM x hx).2.1⟩) (by omega)
  have hc : J.chk n M = 0 := (J.chk_ok n M).2 ⟨h1, h2, fun x hx => ⟨by rw [m.home]; exact (hM x hx).1, (hM x hx).2⟩⟩
  obtain ⟨ce, _, _, _⟩ := commit_sure m.sy (by omega) hc m.nf
  obtain ⟨hnb, hlb⟩ := hou b off _ c rfl
  have HC : Hid (∀ W, Below w.heap.size w W -> Calls Tryz.prog 73 #[.pointer (some ⟨j, 0, none⟩), .slice (some ⟨b, off, none⟩) M.length c] W fun e w' => e = .returned (.int .i64 0) /\ JLeaves 104 SD W w' j p (J.commit D M).2.1 (J.commit D M).2.2) := fun W hW => by
    have := commit_any (w := W) (L := M) (m.jr.below hW) (m.dev.below hW) m.dj (by rw [m.len]; exact m.sy.pre.good.ok) (by have := m.pd'; omega) (by omega) (fun x hx => by rw [(hM x hx).2.2]; unfold maxLen; omega) (hs.below hW)
      (fun g o n c hv hg => by cases hv; exact hnb (m.sd _ hg)) ⟨fun g o n c hv => by cases hv; exact Nat.lt_of_lt_of_le hbl hW.size, fun g o n c hv => by cases hv; exact fun e => hnb (e ▸ m.sj)⟩
    rw [ce] at this
    exact this
  have HF : Hid (∀ W W', Below w.heap.size w W -> JLeaves 104 SD W W' j p (J.commit D M).2.1 (J.commit D M).2.2 -> (W'.cell? ⟨h, 1, none⟩ = some sv /\ W'.frozen? ⟨h, 1, none⟩ = false) /\ ∃ S', (∀ k, S' k -> S k \/ (∃ o n d, Value.slice (some ⟨b, off, none⟩) M.length c = .slice (some ⟨k, o, none⟩) n d) \/ w.heap.size <= k) /\ Home S' (W'.setCell ⟨h, 1, none⟩ (.slice (some ⟨b, off, none⟩) M.length c)) h p n (N + 2) H' /\ Only S w (W'.setCell ⟨h, 1, none⟩ (.slice (some ⟨b, off, none⟩) M.length c))) := fun W W' hW hv => by
    refine ⟨?_, m.committed hW hs hou hM h1 h2 hN hH hK hv⟩
    obtain ⟨SD', g1, g2, g3, g4⟩ := hv
    have hbk : W'.heap[h]? = w.heap[h]? := by
      rw [g4.block h (Nat.lt_of_lt_of_le hhl hW.size) (fun hh => by rcases hh with hh | hh; exact m.dh hh; exact m.hj hh)]
      exact hW.block h hhl
    exact ⟨(World.cell?_of_block hbk).trans m.c1, by rw [show W'.frozen? ⟨h, 1, none⟩ = w.frozen? ⟨h, 1, none⟩ by simp [World.frozen?, hbk]]; exact m.f 1⟩
  clear m hs hou hM hH hK hc ce hcs hc1 hfh
  generalize (J.commit D M).2.1 = D2 at *
  generalize (J.commit D M).2.2 = J2 at *
  generalize M.length = q at *
  go_enter Tryz.func101, Tryz.ntmps101
  go_wp2_with fail
  refine HM1.out.mono ?_
  rintro e w1 ⟨rfl, hb1⟩
  have HB1 := Lib.hid hb1; clear hb1
  go_wp2_with fail
  refine (HT.out _ HB1.out).mono ?_
  rintro e w2 ⟨u, rfl, HB2'⟩
  have HB2 := Lib.hid (HB1.out.trans (HB2'.out.mono HB1.out.size))
  have e0 : w2.cell? ⟨h, 0, none⟩ = some (.pointer (some ⟨j, 0, none⟩)) := (HB2.out.cell (p := ⟨h, 0, none⟩) hhl).trans c0
  clear HB2' HB1 c0
  go_wp2_with fail
  refine (HC.out _ HB2.out).mono ?_
  rintro e w3 ⟨rfl, hv⟩
  obtain ⟨⟨hc1, hf1⟩, hF⟩ := HF.out _ _ HB2.out hv
  have HFF := Lib.hid hF
  clear hv hF HF HC e0
  go_wp2
  go_ret
  exact ⟨rfl, HFF.out⟩
end
end Go.Proofs.YthambopnmhkeeaaGreat
/- A store in plain lists: touch, as the program does it over a cache: what it counts, what it lays down. -/
namespace Go.Proofs.YthambopnmhkeeaaGreat.Ca

def tchL (D L : List (Int × ByteArray)) : List (Int × ByteArray) := L.foldl (fun T w => if T.any (fun t => decide (t.1 = w.1)) = true then T else T ++ [w]) D
theorem tch_snoc (D L : List (Int × ByteArray)) (w : Int × ByteArray) : tchL D (L ++ [w]) = if (tchL D L).any (fun t => decide (t.1 = w.1)) = true then tchL D L else tchL D L ++ [w] := by
  unfold tchL; rw [List.foldl_append]; rfl
theorem tch_len (D L : List (Int × ByteArray)) (hn : (L.map fun x => x.1).Nodup) : (tchL D L).length = D.length + (L.filter fun x => !D.any (fun t => decide (t.1 = x.1))).length := by
  induction L generalizing D with
  | nil => rfl
  | cons w r ih =>
    obtain ⟨h1, h2⟩ := List.nodup_cons.1 (show (w.1 :: r.map fun x => x.1).Nodup from hn)
    show (tchL (if D.any (fun t => decide (t.1 = w.1)) = true then D else D ++ [w]) r).length = _
    rw [ih _ h2]
    by_cases h : D.any (fun t => decide (t.1 = w.1)) = true
    . rw [if_pos h, List.filter_cons_of_neg (by rw [h]; simp)]
    . rw [if_neg h, List.filter_cons_of_pos (by rw [Bool.eq_false_iff.2 h]; rfl), List.length_append, List.length_cons, List.length_nil, List.length_cons]
      have e : (r.filter fun x => !(D ++ [w]).any (fun t => decide (t.1 = x.1))) = r.filter fun x => !D.any (fun t => decide (t.1 = x.1)) := List.filter_congr fun x hx => by
        have hne : w.1 ≠ x.1 := fun e => h1 (e ▸ List.mem_map.2 ⟨x, hx, rfl⟩)
        rw [List.any_append, List.any_cons, List.any_nil]
        simp [hne]
      rw [e]
      omega
theorem Kc.touched {C : CS} {P : TS} (h : Kc C P.t P.d) (hd : ∀ i, P.d i = true -> 0 <= i /\ i < P.n) (L : List (Int × ByteArray)) (hn : (L.map fun x => x.1).Nodup) : (tchL C.dirty L).length = P.cnt + (L.filter fun x => !P.d x.1).length := by
  rw [tch_len _ _ hn, nd_dirty, h.count P.n hd]
  obtain ⟨_, hm⟩ := h.dirty
  have e : (L.filter fun x => !C.dirty.any (fun t => decide (t.1 = x.1))) = L.filter fun x => !P.d x.1 := List.filter_congr fun x _ => by
    congr 1
    rw [Bool.eq_iff_iff, List.any_eq_true]
    constructor
    . rintro ⟨y, hy, e⟩
      have e : y.1 = x.1 := by simpa using e
      rw [<- e]; exact ((hm y).1 hy).1
    . intro hx
      exact ⟨(x.1, P.t x.1), (hm _).2 ⟨hx, rfl⟩, by simp⟩
  rw [e]
  rfl
def putsC (C : CS) (L : List (Int × ByteArray)) : CS := L.foldl (fun C x => (C.put x.1 x.2).2) C
theorem Kc.puts {C : CS} {P : TS} (h : Kc C P.t P.d) (L : List (Int × ByteArray)) (hn : (L.map fun x => x.1).Nodup) (hs : ∀ x ∈ L, x.2.size = 256 /\ -9223372036854775808 <= x.1 /\ x.1 <= 9223372036854775807) (hm : C.nd + (L.filter fun x => !P.d x.1).length < C.most)
    (k : Nat) (hk : k <= L.length) : Kc (putsC C (L.take k)) (P.over (L.take k)).t (P.over (L.take k)).d /\ (putsC C (L.take k)).nd = C.nd + ((L.take k).filter fun x => !P.d x.1).length /\ (putsC C (L.take k)).most = C.most /\ (putsC C (L.take k)).misses = C.misses /\ ∀ hk : k < L.length, ((putsC C (L.take k)).put L[k].1 L[k].2).1 = 0 := by
  have hle : ∀ k, ((L.take k).filter fun x => !P.d x.1).length <= (L.filter fun x => !P.d x.1).length := fun k => ((List.take_sublist k L).filter _).length_le
  have step : ∀ k (hk : k < L.length), Kc (putsC C (L.take k)) (P.over (L.take k)).t (P.over (L.take k)).d -> (putsC C (L.take k)).nd = C.nd + ((L.take k).filter fun x => !P.d x.1).length -> (putsC C (L.take k)).most = C.most -> (putsC C (L.take k)).misses = C.misses ->
      ((putsC C (L.take k)).put L[k].1 L[k].2).1 = 0 /\ Kc (putsC C (L.take (k + 1))) (P.over (L.take (k + 1))).t (P.over (L.take (k + 1))).d /\ (putsC C (L.take (k + 1))).nd = C.nd + ((L.take (k + 1)).filter fun x => !P.d x.1).length /\ (putsC C (L.take (k + 1))).most = C.most /\ (putsC C (L.take (k + 1))).misses = C.misses := by
    intro k hk g1 g2 g3 g4
    have hx := hs L[k] (List.getElem_mem hk)
    obtain ⟨p1, p2, p3, p4, p5⟩ := g1.put L[k].1 ⟨hx.2.1, hx.2.2⟩ (by rw [g2, g3]; have := hle k; omega) L[k].2 hx.1
    have et : L.take (k + 1) = L.take k ++ [L[k]] := List.take_succ_eq_append_getElem hk
    have e1 : putsC C (L.take (k + 1)) = ((putsC C (L.take k)).put L[k].1 L[k].2).2 := by unfold putsC; rw [et, List.foldl_append]; rfl
    have e2 : P.over (L.take (k + 1)) = { P.over (L.take k) with t := fun j => if j = L[k].1 then L[k].2 else (P.over (L.take k)).t j, d := fun j => if j = L[k].1 then true else (P.over (L.take k)).d j } := by
      unfold TS.over; rw [et, List.foldl_append]; rfl
    have hnot : ∀ x ∈ L.take k, x.1 ≠ L[k].1 := fun x hx e => by
      obtain ⟨j, hj, rfl⟩ := List.getElem_of_mem hx
      rw [List.getElem_take] at e
      have hjk : j < k := by rw [List.length_take] at hj; omega
      have := (List.pairwise_iff_getElem.1 hn) j k (by rw [List.length_map]; omega) (by rw [List.length_map]; exact hk) hjk
      rw [List.getElem_map, List.getElem_map] at this
      exact this e
    have hdk := (P.over_not (L.take k) L[k].1 hnot).2
    refine ⟨p1, ?_, ?_, by rw [e1, p4, g3], by rw [e1, p5, g4]⟩
    . rw [e1, e2]; exact p2
    . rw [e1, p3, hdk, g2, et, List.filter_append, List.length_append]
      cases hd : P.d L[k].1
      . rw [List.filter_cons_of_pos (by rw [hd]; rfl)]; simp; omega
      . rw [List.filter_cons_of_neg (by rw [hd]; simp)]; simp
  have all : ∀ k, k <= L.length -> Kc (putsC C (L.take k)) (P.over (L.take k)).t (P.over (L.take k)).d /\ (putsC C (L.take k)).nd = C.nd + ((L.take k).filter fun x => !P.d x.1).length /\ (putsC C (L.take k)).most = C.most /\ (putsC C (L.take k)).misses = C.misses := by
    intro k
    induction k with
    | zero => intro _; exact ⟨h, rfl, rfl, rfl⟩
    | succ k ih =>
      intro hk
      obtain ⟨g1, g2, g3, g4⟩ := ih (by omega)
      exact (step k (by omega) g1 g2 g3 g4).2
  obtain ⟨g1, g2, g3, g4⟩ := all k hk
  exact ⟨g1, g2, g3, g4, fun hk => (step k hk g1 g2 g3 g4).1⟩
end Go.Proofs.YthambopnmhkeeaaGreat.Ca
/- The document's own journal: what Text, long, read, place and Home answer: the same. -/
namespace Go.Proofs.YthambopnmhkeeaaGreat
open Go.RowKit
open Fr (bs fixL nmAt fix_name fixed_to rfixed_to bs_append bs_len rtoFixed_at or64 nmAt_lt bs_data str_len bs_ext)

set_option maxRecDepth 100000 in
set_option maxHeartbeats 2000000 in
theorem vtext_any (e s log p : Nat) (w : World) (he : e < 18446744073709551616) (hs : s < 18446744073709551616) (hl : log <= 4096) (hp : p <= 4096) :
    Calls Tryz.prog 136 #[.agg #[.int .u64 (e : Int), .int .u64 (s : Int), .int .i64 (log : Int), .int .i64 (p : Int)]] w fun r w' => r = .returned (.string (slotB e s log p)) /\ Below w.heap.size w w' := by
  obtain ⟨i0, hi, hz0, hz1, hz2⟩ := info_parts Tryz.infoB
  have HZ2 := Lib.hid hz2; clear hz2
  obtain ⟨FT, hFT⟩ : ∃ f : Int -> ByteArray, f = fun v => bs (fixL v.toNat) := ⟨_, rfl⟩
  have CF : Hid (∀ (x : Int) (W : World), 0 <= x -> x < 4294967296 -> Calls Tryz.prog 143 #[.int .u32 x] W fun r w' => r = .returned (.string (FT x)) /\ Below W.heap.size W w') := fun x W h0 h1 => rfixed_to x x.toNat _ W (by omega) (by omega) (by rw [hFT]; rfl)
  obtain ⟨w0, hw0⟩ : ∃ w0, w.alloc (.cells #[.int .u64 (e : Int), .int .u64 (s : Int), .int .i64 (log : Int), .int .i64 (p : Int)] 134) = w0 := ⟨_, rfl⟩
  have hb0 : w0.heap[w.heap.size]? = some (.cells #[.int .u64 (e : Int), .int .u64 (s : Int), .int .i64 (log : Int), .int .i64 (p : Int)] 134 (0, 0)) := by rw [<- hw0, heap_alloc_new]
  have HB0 : Hid (Below w.heap.size w w0) := by rw [<- hw0]; exact (Below.refl _ _).alloc (Nat.le_refl _) _
  have c0 : w0.cell? ⟨w.heap.size, 0, none⟩ = some (.int .u64 (e : Int)) := by rw [cell_at hb0]; rfl
  have c1 : w0.cell? ⟨w.heap.size, 1, none⟩ = some (.int .u64 (s : Int)) := by rw [cell_at hb0]; rfl
  have c2 : w0.cell? ⟨w.heap.size, 2, none⟩ = some (.int .i64 (log : Int)) := by rw [cell_at hb0]; rfl
  have c3 : w0.cell? ⟨w.heap.size, 3, none⟩ = some (.int .i64 (p : Int)) := by rw [cell_at hb0]; rfl
  have hlt : w.heap.size < w0.heap.size := (Array.getElem?_eq_some_iff.1 hb0).1
  clear hb0
  have HW0 := Lib.hid hw0; clear hw0
  obtain ⟨e0, he0⟩ : ∃ x : Nat, e % 4294967296 = x := ⟨_, rfl⟩
  obtain ⟨s0, hs0⟩ : ∃ x : Nat, s % 4294967296 = x := ⟨_, rfl⟩
  obtain ⟨e1, he1⟩ : ∃ x : Nat, e / 4294967296 = x := ⟨_, rfl⟩
  obtain ⟨s1, hs1⟩ : ∃ x : Nat, s / 4294967296 = x := ⟨_, rfl⟩
  have l0 : e0 < 4294967296 := by omega
  have l1 : s0 < 4294967296 := by omega
  have l2 : e1 < 4294967296 := by omega
  have l3 : s1 < 4294967296 := by omega
  have t0 : (e : Int).tmod 4294967296 = (e0 : Int) := by rw [Int.tmod_eq_emod_of_nonneg (by omega)]; omega
  have t1 : (s : Int).tmod 4294967296 = (s0 : Int) := by rw [Int.tmod_eq_emod_of_nonneg (by omega)]; omega
  have t2 : (e : Int) / 4294967296 = (e1 : Int) := by omega
  have t3 : (s : Int) / 4294967296 = (s1 : Int) := by omega
  have u0 : IntKind.u32.wrap (e0 : Int) = (e0 : Int) := u32_in _ (by omega)
  have u1 : IntKind.u32.wrap (s0 : Int) = (s0 : Int) := u32_in _ (by omega)
  have u2 : IntKind.u32.wrap (e1 : Int) = (e1 : Int) := u32_in _ (by omega)
  have u3 : IntKind.u32.wrap (s1 : Int) = (s1 : Int) := u32_in _ (by omega)
  have u4 : IntKind.u32.wrap (log : Int) = (log : Int) := u32_in _ (by omega)
  have u5 : IntKind.u32.wrap (p : Int) = (p : Int) := u32_in _ (by omega)
  have z0 : (FT (e0 : Int)).size <= 4 := by rw [hFT]; exact Nat.le_refl _
  have z1 : (FT (e1 : Int)).size <= 4 := by rw [hFT]; exact Nat.le_refl _
  have z2 : (FT (s0 : Int)).size <= 4 := by rw [hFT]; exact Nat.le_refl _
  have z3 : (FT (s1 : Int)).size <= 4 := by rw [hFT]; exact Nat.le_refl _
  have z4 : (FT (log : Int)).size <= 4 := by rw [hFT]; exact Nat.le_refl _
  have z5 : (FT (p : Int)).size <= 4 := by rw [hFT]; exact Nat.le_refl _
  have b1 : ¬ 9223372036854775807 < 4 + (FT (e0 : Int)).size := by omega
  have b2 : ¬ 9223372036854775807 < 4 + (FT (e0 : Int)).size + (FT (e1 : Int)).size := by omega
  have b3 : ¬ 9223372036854775807 < 4 + (FT (e0 : Int)).size + (FT (e1 : Int)).size + (FT (s0 : Int)).size := by omega
  have b4 : ¬ 9223372036854775807 < 4 + (FT (e0 : Int)).size + (FT (e1 : Int)).size + (FT (s0 : Int)).size + (FT (s1 : Int)).size := by omega
  have b5 : ¬ 9223372036854775807 < 4 + (FT (e0 : Int)).size + (FT (e1 : Int)).size + (FT (s0 : Int)).size + (FT (s1 : Int)).size + (FT (log : Int)).size := by omega
  have b6 : ¬ 9223372036854775807 < 4 + (FT (e0 : Int)).size + (FT (e1 : Int)).size + (FT (s0 : Int)).size + (FT (s1 : Int)).size + (FT (log : Int)).size + (FT (p : Int)).size := by omega
  obtain ⟨X, hX⟩ : ∃ X, ⟨#[67, 68, 88, 83]⟩ ++ FT (e0 : Int) ++ FT (e1 : Int) ++ FT (s0 : Int) ++ FT (s1 : Int) ++ FT (log : Int) ++ FT (p : Int) = X := ⟨_, rfl⟩
  have hXe : X = bs ([67, 68, 88, 83] ++ wideL e ++ wideL s ++ fixL log ++ fixL p) := by
    rw [<- hX, hFT]
    show ((((((bs [67, 68, 88, 83] ++ bs (fixL e0)) ++ bs (fixL e1)) ++ bs (fixL s0)) ++ bs (fixL s1)) ++ bs (fixL log)) ++ bs (fixL p)) = _
    unfold wideL
    rw [he0, he1, hs0, hs1, bs_append, bs_append, bs_append, bs_append, bs_append, bs_append]
    simp only [List.append_assoc]
  have zX : X.size = 28 := by rw [hXe, bs_len]; rfl
  obtain ⟨Z, hZ⟩ : ∃ Z, bs (List.replicate 100 0) = Z := ⟨_, rfl⟩
  have zZ : Z.size <= 100 := by rw [<- hZ, bs_len, List.length_replicate]; exact Nat.le_refl _
  have HF : Hid ((X ++ Z) ++ (X ++ Z) = slotB e s log p) := by
    show _ = _
    unfold slotB
    rw [half_parts, hXe, <- hZ, bs_append, bs_append]
  have HFT := Lib.hid hFT
  have x0 : X.size <= 28 := by omega
  have x1 : 28 <= X.size := by omega
  clear hXe zX hFT
  have HZ := Lib.hid hZ
  have HX := Lib.hid hX
  clear hZ hX
  have HE := Lib.hid (And.intro (And.intro he0 he1) (And.intro hs0 hs1))
  clear he0 he1 hs0 hs1
  go_enter Tryz.func136, Tryz.ntmps136
  go_wp2_with fail
  rw [HW0.out]
  go_region_held3 (fun W => Below w0.heap.size w0 W /\ W.cell? ⟨w.heap.size, 0, none⟩ = some (.int .u64 (e : Int)) /\ W.cell? ⟨w.heap.size, 1, none⟩ = some (.int .u64 (s : Int)) /\ W.cell? ⟨w.heap.size, 2, none⟩ = some (.int .i64 (log : Int)) /\ W.cell? ⟨w.heap.size, 3, none⟩ = some (.int .i64 (p : Int)))
    (first | exact ⟨(Below.refl _ _).drew, c0, c1, c2, c3⟩ | exact held_four hlt (by assumption) (by assumption) | exact held_four hlt (by assumption) (Below.refl _ _))
    (first
      | (go_at_call 143; refine (CF.out _ _ ?_ ?_).mono ?_; omega; omega; rintro r w' ⟨rfl, hbx⟩)
      | (go_at_call 143; trace_state; fail))
  rw [HX.out]
  rename_i hHeld
  have HB1 : Hid (Below w.heap.size w w') := HB0.out.trans (hHeld.1.mono (Nat.le_of_lt hlt))
  clear hHeld hbx b1 b2 b3 b4 b5 b6 t0 t1 t2 t3 u0 u1 u2 u3 u4 u5 c0 c1 c2 c3 z0 z1 z2 z3 z4 z5
  have hmT : 128 - (X.size : Int) = ((100 : Nat) : Int) := by omega
  have HMT := Lib.hid hmT; clear hmT
  go_wp2_with (at_make; refine wpList_make_full _ rfl _ _ 107 rfl w'.heap.size 5 i0 (.int .u8 0) 1 Tryz.underlying107 hi hz0 hz1 _ _ _ _ 100 rfl rfl HMT.out HMT.out (by rw [HZ2.out]; omega) (by unfold maxLen; omega) (Nat.le_refl _) ?_)
  intro w1 hown hgrow
  rw [toList_madeCells_one] at hown
  have hconv := Fr.zero_text hown
  have HB2 : Hid (Below w.heap.size w w1) := HB1.out.grown hgrow HB1.out.size (fun k h => by cases h)
  clear hown hgrow HB1
  rw [HZ.out] at hconv
  go_wp2
  go_ret
  exact ⟨by rw [<- HF.out]; rfl, HB2.out⟩

theorem ext_drop (l : List UInt8) (k m : Nat) (T : ByteArray) (h : T = bs (l.drop k)) : T.extract m T.size = bs (l.drop (k + m)) := by
  have e : T.data.toList = l.drop k := by rw [h]; simp [bs]
  rw [Fr.ext_eq T (l.drop k) e, List.drop_drop]

set_option maxRecDepth 100000 in
set_option maxHeartbeats 1000000 in
theorem rtoFixed_quiet (s : ByteArray) (w : World) (h4 : 4 <= s.size) (hs : s.size <= maxLen) :
    Calls Tryz.prog 179 #[.string s] w fun e w' => e = .returned (.tuple #[.int .u32 ((Fr.unfix s[0] s[1] s[2] s[3] : Nat) : Int), .string (s.extract 4 s.size), .bool true]) /\ w' = w.drew := by
  unfold maxLen at hs
  have i0 : 0 < s.size := by omega
  have i1 : 1 < s.size := by omega
  have i2 : 2 < s.size := by omega
  have i3 : 3 < s.size := by omega
  have j1 : (1 : Int) < (s.size : Int) := by omega
  have j2 : (2 : Int) < (s.size : Int) := by omega
  have j3 : (3 : Int) < (s.size : Int) := by omega
  have j4 : (4 : Int) <= (s.size : Int) := by omega
  go_enter Tryz.func179, Tryz.ntmps179
  go_wp2
  go_region
  go_wp2
  go_ret3
  exact ⟨Fr.tup3 _ _ _ (Fr.sum4 s[0] s[1] s[2] s[3]), rfl⟩
theorem rtoFixed_qat {T R : ByteArray} {q : List UInt8} {k : Nat} (w : World) (hT : T = bs (q.drop k)) (hR : R = bs (q.drop (k + 4))) (h4 : k + 4 <= q.length) (hs : q.length <= 10000) :
    Calls Tryz.prog 179 #[.string T] w fun e w' => e = .returned (.tuple #[.int .u32 ((nmAt q k : Nat) : Int), .string R, .bool true]) /\ w' = w.drew := by
  have zT : T.size = q.length - k := by rw [hT, bs_len, List.length_drop]
  refine (rtoFixed_quiet T w (by omega) (by unfold maxLen; omega)).mono fun e w' ⟨he, hb⟩ => ⟨?_, hb⟩
  have e0 (j : Nat) (hj : j < T.size) : T[j]'hj = q.getD (k + j) 0 := by
    subst hT
    have h1 : k + j < q.length := by omega
    have h2 : (bs (q.drop k))[j]'hj = (q.drop k)[j]'(by rw [List.length_drop]; omega) := rfl
    rw [h2, List.getElem_drop]
    simp [List.getD, h1]
  rw [he, e0 0 (by omega), e0 1 (by omega), e0 2 (by omega), e0 3 (by omega), ext_drop q k 4 T hT, <- hR]
  rfl

set_option maxRecDepth 100000 in
set_option maxHeartbeats 1000000 in
theorem vlong_any (l : List UInt8) (k : Nat) (T : ByteArray) (w : World) (hl : k + 8 <= l.length) (hm : l.length <= 1000) (h1 : T = bs (l.drop k)) :
    Calls Tryz.prog 180 #[.string T] w fun e w' => e = .returned (.int .u64 ((wideAt l k : Nat) : Int)) /\ w' = w.drew.drew := by
  obtain ⟨T3, HT3⟩ : ∃ T3, Hid (T3 = bs (l.drop (k + 4))) := ⟨_, rfl⟩
  obtain ⟨T4, HT4⟩ : ∃ T4, Hid (T4 = bs (l.drop (k + 4 + 4))) := ⟨_, rfl⟩
  have F1 := Lib.hid (fun W => rtoFixed_qat W h1 HT3.out (by omega) (by omega))
  have F2 := Lib.hid (fun W => rtoFixed_qat W HT3.out HT4.out (by omega) (by omega))
  have hex : T.extract 4 T.size = T3 := by rw [HT3.out]; exact ext_drop l k 4 T h1
  have zT : T.size = l.length - k := by rw [h1, bs_len, List.length_drop]
  have z1 : (4 : Int) <= (T.size : Int) := by omega
  have x1 := nmAt_lt l k
  have x2 := nmAt_lt l (k + 4)
  have HW : Hid ((nmAt l (k + 4) : Int) * 4294967296 + (nmAt l k : Int) = ((wideAt l k : Nat) : Int)) := by show _ = _; unfold wideAt; omega
  clear h1 zT
  generalize wideAt l k = wd at *
  generalize nmAt l k = lo at *
  generalize nmAt l (k + 4) = hi at *
  go_enter Tryz.func180, Tryz.ntmps180
  go_wp2_with fail
  refine (F1.out _).mono ?_
  rintro e w2 ⟨rfl, rfl⟩
  go_wp2_with fail
  refine (F2.out _).mono ?_
  rintro e w3 ⟨rfl, rfl⟩
  go_wp2
  go_ret
  exact ⟨by rw [<- HW.out]; rfl, rfl⟩

theorem keep_call {w W W' : World} (h : Below w.heap.size w W) (hb : Below W.heap.size W W') : Below w.heap.size w W' := h.trans (hb.mono h.size)
theorem wide_drop (l : List UInt8) (k : Nat) : wideAt (l.drop k) 0 = wideAt l k := by
  unfold wideAt
  rw [Fr.nmAt_drop, Fr.nmAt_drop]
  rfl

theorem results_vslot (tmps : Array Value) (g : Nat) (Y : World) (b : Bool) (x0 x1 x2 x3 : Int) (h4 : tmps.getD 4 undef = .pointer (some ⟨g, 0, none⟩)) (h5 : tmps.getD 5 undef = .bool b)
    (hY : Y.heap[g]? = some (.cells #[.int .u64 x0, .int .u64 x1, .int .i64 x2, .int .i64 x3] 134 (0, 0))) :
    (results Tryz.f139 tmps).run Tryz.prog Y = .ok (.tuple #[.agg #[.int .u64 x0, .int .u64 x1, .int .i64 x2, .int .i64 x3], .bool b]) Y := by
  have y0 : Y.cell? ⟨g, 0, none⟩ = some (.int .u64 x0) := by rw [cell_at hY]; rfl
  have y1 : Y.cell? ⟨g, 1, none⟩ = some (.int .u64 x1) := by rw [cell_at hY]; rfl
  have y2 : Y.cell? ⟨g, 2, none⟩ = some (.int .i64 x2) := by rw [cell_at hY]; rfl
  have y3 : Y.cell? ⟨g, 3, none⟩ = some (.int .i64 x3) := by rw [cell_at hY]; rfl
  rw [Array.getD_eq_getD_getElem?] at h4 h5
  simp [results, Tryz.results139, go_sem, h4, h5, y0, y1, y2, y3]

def VRead (w : World) (x : Option (Nat × Nat × Nat × Nat)) (e : Ending) (w' : World) : Prop :=
  ∃ x0 x1 x2 x3 : Int, ∃ b : Bool, e = .returned (.tuple #[.agg #[.int .u64 x0, .int .u64 x1, .int .i64 x2, .int .i64 x3], .bool b]) /\ Below w.heap.size w w' /\
    ((x = none /\ b = false) \/ (∃ y, x = some y /\ b = true /\ x0 = (y.1 : Int) /\ x1 = (y.2.1 : Int) /\ x2 = (y.2.2.1 : Int) /\ x3 = (y.2.2.2 : Int)))

set_option maxRecDepth 100000 in
set_option maxHeartbeats 2000000 in
theorem vread_any (t : ByteArray) (n : Nat) (w : World) (ht : t.size = 256) (hn : n <= 4096) :
    Calls Tryz.prog 139 #[.string t, .int .i64 (n : Int)] w fun e w' => VRead w (rdSlot t n) e w' := by
  obtain ⟨l, hl⟩ : ∃ l, t.data.toList = l := ⟨_, rfl⟩
  have hll : l.length = 256 := by rw [<- hl, str_len, ht]
  have HI := Lib.hid (rdSlot_iff t n)
  rw [hl] at HI
  obtain ⟨T4, h4⟩ : ∃ T, t.extract 4 t.size = T := ⟨_, rfl⟩
  obtain ⟨T12, h12⟩ : ∃ T, t.extract 12 t.size = T := ⟨_, rfl⟩
  obtain ⟨T20, h20⟩ : ∃ T, t.extract 20 t.size = T := ⟨_, rfl⟩
  obtain ⟨T24, h24⟩ : ∃ T, t.extract 24 t.size = T := ⟨_, rfl⟩
  have e4 : T4 = bs (l.drop 4) := by rw [<- h4, Fr.ext_eq t l hl]
  have e12 : T12 = bs (l.drop 12) := by rw [<- h12, Fr.ext_eq t l hl]
  have e20 : T20 = bs (l.drop 20) := by rw [<- h20, Fr.ext_eq t l hl]
  have e24 : T24 = bs (l.drop 24) := by rw [<- h24, Fr.ext_eq t l hl]
  obtain ⟨T28, e28⟩ : ∃ T, T = bs (l.drop 28) := ⟨_, rfl⟩
  have F3 := Lib.hid (fun W => rtoFixed_at (k := 20) W e20 e24 (by omega) (by omega))
  have F4 := Lib.hid (fun W => rtoFixed_at (k := 24) W e24 e28 (by omega) (by omega))
  obtain ⟨LG, g4, g12, CL⟩ : ∃ LG : ByteArray -> Int, LG T4 = ((wideAt l 4 : Nat) : Int) /\ LG T12 = ((wideAt l 12 : Nat) : Int) /\ Hid (∀ (T : ByteArray) (W : World), T = T4 \/ T = T12 -> Calls Tryz.prog 180 #[.string T] W fun r w' => r = .returned (.int .u64 (LG T)) /\ w' = W.drew.drew) := by
    refine ⟨fun T => ((wideAt (T.data.toList) 0 : Nat) : Int), ?_, ?_, ?_⟩
    . show ((wideAt T4.data.toList 0 : Nat) : Int) = _
      rw [show T4.data.toList = l.drop 4 by rw [e4]; simp [bs], wide_drop]
    . show ((wideAt T12.data.toList 0 : Nat) : Int) = _
      rw [show T12.data.toList = l.drop 12 by rw [e12]; simp [bs], wide_drop]
    . rintro T W (rfl | rfl)
      . exact vlong_any T.data.toList 0 T W (by rw [e4]; simp [bs]; omega) (by rw [e4]; simp [bs]; omega) (by rw [List.drop_zero, bs_data])
      . exact vlong_any T.data.toList 0 T W (by rw [e12]; simp [bs]; omega) (by rw [e12]; simp [bs]; omega) (by rw [List.drop_zero, bs_data])
  have x4 := wideAt_lt l 4; have x12 := wideAt_lt l 12; have x20 := nmAt_lt l 20; have x24 := nmAt_lt l 24
  clear e4 e12 e20 e24 e28 hl hll
  generalize wideAt l 4 = e at *
  generalize wideAt l 12 = s at *
  generalize nmAt l 20 = log at *
  generalize nmAt l 24 = p at *
  have i20 : (20 : Int) <= (t.size : Int) := by omega
  have i24 : (24 : Int) <= (t.size : Int) := by omega
  have i4 : (4 : Int) <= (t.size : Int) := by omega
  have i12 : (12 : Int) <= (t.size : Int) := by omega
  have CT := Lib.hid (fun W (h : log <= 4096) (h2 : p <= 4096) => vtext_any e s log p W x4 x12 h h2)
  clear ht
  have HG4 := Lib.hid g4; have HG12 := Lib.hid g12
  obtain ⟨A0, hA0⟩ : ∃ A0, w.alloc (.cells #[.int .u64 0, .int .u64 0, .int .i64 0, .int .i64 0] 134) = A0 := ⟨_, rfl⟩
  have hr0 : A0.heap[w.heap.size]? = some (.cells #[.int .u64 0, .int .u64 0, .int .i64 0, .int .i64 0] 134 (0, 0)) := by rw [<- hA0, heap_alloc_new]
  have HB0 : Hid (Below w.heap.size w A0) := by rw [<- hA0]; exact (Below.refl _ _).alloc (Nat.le_refl _) _
  have hz0 : w.heap.size < A0.heap.size := (Array.getElem?_eq_some_iff.1 hr0).1
  have HR0 := Lib.hid hr0; clear hr0
  have HA0 := Lib.hid hA0; clear hA0
  have fin : Hid (∀ (X5 : World) (x0 x1 x2 x3 : Int) (b : Bool) (tmps : Array Value), Below A0.heap.size A0 X5 -> tmps.getD 4 undef = .pointer (some ⟨w.heap.size, 0, none⟩) -> tmps.getD 5 undef = .bool b ->
      (rdSlot t n = none /\ b = false) \/ (rdSlot t n = some (e, s, log, p) /\ x0 = (e : Int) /\ x1 = (s : Int) /\ x2 = (log : Int) /\ x3 = (p : Int) /\ b = true) ->
      bodyPost Tryz.prog Tryz.f139 (fun r w' => VRead w (rdSlot t n) r w') .ret ⟨tmps, []⟩ ((((X5.setCell ⟨w.heap.size, 0, none⟩ (.int .u64 x0)).setCell ⟨w.heap.size, 1, none⟩ (.int .u64 x1)).setCell ⟨w.heap.size, 2, none⟩ (.int .i64 x2)).setCell ⟨w.heap.size, 3, none⟩ (.int .i64 x3))) := by
    intro X5 x0 x1 x2 x3 b tmps h5 ht4 ht5 hc
    have h0 := (h5.block _ hz0).trans HR0.out
    have h4 := heap_setCell_at (i := 3) (heap_setCell_at (i := 2) (heap_setCell_at (i := 1) (heap_setCell_at (i := 0) h0 (.int .u64 x0)) (.int .u64 x1)) (.int .i64 x2)) (.int .i64 x3)
    have hbw := HB0.out.trans (h5.mono (Nat.le_of_lt hz0))
    refine bodyPost_ret (results_vslot tmps w.heap.size _ b x0 x1 x2 x3 ht4 ht5 h4) rfl ⟨x0, x1, x2, x3, b, rfl, (((hbw.setCell (Nat.le_refl _) _).setCell (Nat.le_refl _) _).setCell (Nat.le_refl _) _).setCell (Nat.le_refl _) _, ?_⟩
    rcases hc with ⟨hr, rfl⟩ | ⟨hr, rfl, rfl, rfl, rfl, rfl⟩
    . exact .inl ⟨hr, rfl⟩
    . exact .inr ⟨_, hr, rfl, rfl, rfl, rfl, rfl⟩
  have HFr : Hid (∀ W, Below A0.heap.size A0 W -> W.cell? ⟨w.heap.size, 0, none⟩ = some (.int .u64 0) /\ W.cell? ⟨w.heap.size, 1, none⟩ = some (.int .u64 0) /\ W.cell? ⟨w.heap.size, 2, none⟩ = some (.int .i64 0) /\ W.cell? ⟨w.heap.size, 3, none⟩ = some (.int .i64 0) /\ W.frozen? ⟨w.heap.size, 0, none⟩ = false /\ W.frozen? ⟨w.heap.size, 1, none⟩ = false /\ W.frozen? ⟨w.heap.size, 2, none⟩ = false /\ W.frozen? ⟨w.heap.size, 3, none⟩ = false) := fun W hW => by
    have h0 := (hW.block _ hz0).trans HR0.out
    exact ⟨by rw [cell_at h0]; rfl, by rw [cell_at h0]; rfl, by rw [cell_at h0]; rfl, by rw [cell_at h0]; rfl, free_at h0 0, free_at h0 1, free_at h0 2, free_at h0 3⟩
  go_enter Tryz.func139, Tryz.ntmps139
  go_wp2_with fail
  rw [HA0.out]
  refine (F3.out _).mono ?_
  rintro r w1 ⟨rfl, hb1⟩
  have HB1 := Lib.hid hb1; clear hb1
  go_wp2_with fail
  refine (F4.out _).mono ?_
  rintro r w2 ⟨rfl, hb2⟩
  have HB2 := Lib.hid (HB1.out.trans (hb2.mono HB1.out.size)); clear hb2 HB1
  obtain ⟨r0, r1, r2, r3, q0, q1, q2, q3⟩ := HFr.out _ HB2.out
  by_cases hf : 50 <= log /\ log <= 4096 /\ log + 3 <= n /\ p < log
  . obtain ⟨f1, f2, f3, f4⟩ := hf
    have d1 : ¬ (log : Int) < 50 := by omega
    have d2 : ¬ (4096 : Int) < (log : Int) := by omega
    have d3 : ¬ (n : Int) - 3 < (log : Int) := by omega
    have d4 : ¬ (log : Int) <= (p : Int) := by omega
    have CT2 := Lib.hid (fun W => CT.out W (by omega) (by omega))
    have v1 : IntKind.i64.wrap (log : Int) = (log : Int) := IntWalk.i64_in _ (by omega)
    have v2 : IntKind.i64.wrap (p : Int) = (p : Int) := IntWalk.i64_in _ (by omega)
    have hzz : w.heap.size < w2.heap.size := Nat.lt_of_lt_of_le hz0 HB2.out.size
    have hne1 : w2.heap.size ≠ w.heap.size := by omega
    have hne2 : w.heap.size ≠ w2.heap.size := by omega
    go_upto_region 5 with fail
    go_cut [12] (fun s12 wx => ∃ g : Nat, s12 = .pointer (some ⟨g, 0, none⟩) /\ Hid (Below w2.heap.size w2 wx /\ wx.heap[g]? = some (.cells #[.int .u64 (e : Int), .int .u64 (s : Int), .int .i64 (log : Int), .int .i64 (p : Int)] 134 (0, 0))))
    case first =>
      go_region_held3 (fun W => W.cell? ⟨w.heap.size, 0, none⟩ = some (.int .u64 0))
        (first | exact r0 | go_keep)
        (first | (go_at_call 180; refine (CL.out _ _ ?_).mono ?_; (first | exact .inl rfl | exact .inr rfl); rintro r w' ⟨rfl, rfl⟩))
      all_goals
        go_wp2_with fail
        go_meet
        exact ⟨_, rfl, ⟨((((((Below.refl _ _).alloc (Nat.le_refl _) _).drew).drew).drew).drew).drew, heap_alloc_new ..⟩⟩
    case rest =>
      obtain ⟨g, rfl, hg⟩ := hcut
      obtain ⟨hg1, hg2⟩ := hg.out
      clear hg r0 r1 r2 r3 q0 q1 q2 q3
      have HBc : Hid (Below A0.heap.size A0 wc) := keep_call HB2.out hg1
      have hgl : g < wc.heap.size := (Array.getElem?_eq_some_iff.1 hg2).1
      have HKg : Hid (∀ W, Below wc.heap.size wc W -> W.cell? ⟨g, 0, none⟩ = some (.int .u64 (e : Int)) /\ W.cell? ⟨g, 1, none⟩ = some (.int .u64 (s : Int)) /\ W.cell? ⟨g, 2, none⟩ = some (.int .i64 (log : Int)) /\ W.cell? ⟨g, 3, none⟩ = some (.int .i64 (p : Int))) := fun W hW => by
        have h0 := (hW.block g hgl).trans hg2
        exact ⟨by rw [cell_at h0]; rfl, by rw [cell_at h0]; rfl, by rw [cell_at h0]; rfl, by rw [cell_at h0]; rfl⟩
      have hgw : g ≠ w.heap.size := fun e => by
        have h0 := HFr.out _ HBc.out
        have h1 : wc.heap[w.heap.size]? = some (.cells #[.int .u64 0, .int .u64 0, .int .i64 0, .int .i64 0] 134 (0, 0)) := (HBc.out.block _ hz0).trans HR0.out
        rw [e, h1] at hg2
        simp only [Option.some.injEq, Obj.cells.injEq] at hg2
        have h2 := congrArg (fun x : Array Value => x[2]?) hg2.1
        simp at h2
        omega
      have hgw2 : w.heap.size ≠ g := fun e => hgw e.symm
      obtain ⟨k0, k1, k2, k3⟩ := HKg.out _ (Below.refl _ _)
      clear hg1 hg2
      by_cases hte : t = slotB e s log p
      . have HR : Hid (rdSlot t n = some (e, s, log, p)) := (HI.out _).2 ⟨⟨by omega, by omega, by omega, hte⟩, rfl⟩
        have hcmp : ((slotB e s log p).toList == t.toList) = true := by rw [Fr.str_same hte.symm]
        generalize slotB e s log p = tt at *
        clear hte HI CT
        go_wp2_with fail
        go_region_held3 (fun W => W.cell? ⟨g, 0, none⟩ = some (.int .u64 (e : Int)) /\ W.cell? ⟨g, 1, none⟩ = some (.int .u64 (s : Int)) /\ W.cell? ⟨g, 2, none⟩ = some (.int .i64 (log : Int)) /\ W.cell? ⟨g, 3, none⟩ = some (.int .i64 (p : Int)))
          (first | exact ⟨k0, k1, k2, k3⟩ | assumption | go_keep)
          (first | (go_at_call 136; refine (CT2.out _).mono ?_; rintro r w6 ⟨rfl, hb6'⟩; have hb6 : Below wc.heap.size wc w6 := Fr.below_predrew hb6'; have hh6 := HKg.out _ hb6; obtain ⟨r0, r1, r2, r3, q0, q1, q2, q3⟩ := HFr.out _ (keep_call HBc.out hb6)))
        go_wp2
        exact fin.out _ _ _ _ _ _ _ (keep_call HBc.out hb6) rfl rfl (.inr ⟨HR.out, rfl, rfl, rfl, rfl, rfl⟩)
      . have HR : Hid (rdSlot t n = none) := by
          cases h : rdSlot t n with
          | none => rfl
          | some x => exact absurd ((HI.out _).1 h).1.2.2.2 hte
        have hcmp : ((slotB e s log p).toList == t.toList) = false := by rw [Fr.str_diff (fun h => hte h.symm)]
        generalize slotB e s log p = tt at *
        clear hte HI CT
        go_wp2_with fail
        go_region_held3 (fun W => W.cell? ⟨g, 0, none⟩ = some (.int .u64 (e : Int)) /\ W.cell? ⟨g, 1, none⟩ = some (.int .u64 (s : Int)) /\ W.cell? ⟨g, 2, none⟩ = some (.int .i64 (log : Int)) /\ W.cell? ⟨g, 3, none⟩ = some (.int .i64 (p : Int)))
          (first | exact ⟨k0, k1, k2, k3⟩ | assumption | go_keep)
          (first | (go_at_call 136; refine (CT2.out _).mono ?_; rintro r w6 ⟨rfl, hb6'⟩; have hb6 : Below wc.heap.size wc w6 := Fr.below_predrew hb6'; have hh6 := HKg.out _ hb6; obtain ⟨r0, r1, r2, r3, q0, q1, q2, q3⟩ := HFr.out _ (keep_call HBc.out hb6)))
        go_wp2
        exact fin.out _ _ _ _ _ _ _ (keep_call HBc.out hb6) rfl rfl (.inl ⟨HR.out, rfl⟩)
  . have HR : Hid (rdSlot t n = none) := by
      cases h : rdSlot t n with
      | none => rfl
      | some x =>
        have h1 := ((HI.out _).1 h).1
        exact absurd ⟨h1.1, by omega, h1.2.1, h1.2.2.1⟩ hf
    have HFin : Hid (∀ (tmps : Array Value), tmps.getD 4 undef = .pointer (some ⟨w.heap.size, 0, none⟩) -> tmps.getD 5 undef = .bool false -> bodyPost Tryz.prog Tryz.f139 (fun r w' => VRead w (rdSlot t n) r w') .ret ⟨tmps, []⟩ ((((w2.setCell ⟨w.heap.size, 0, none⟩ (.int .u64 0)).setCell ⟨w.heap.size, 1, none⟩ (.int .u64 0)).setCell ⟨w.heap.size, 2, none⟩ (.int .i64 0)).setCell ⟨w.heap.size, 3, none⟩ (.int .i64 0))) :=
      fun tmps h1 h2 => fin.out w2 0 0 0 0 false tmps HB2.out h1 h2 (.inl ⟨HR.out, rfl⟩)
    clear HI CT CL
    by_cases a1 : log < 50
    . have d1 : (log : Int) < 50 := by omega
      go_wp2
      exact HFin.out _ rfl rfl
    . have d1 : ¬ (log : Int) < 50 := by omega
      by_cases a2 : 4096 < log
      . have d2 : (4096 : Int) < (log : Int) := by omega
        go_wp2
        exact HFin.out _ rfl rfl
      . have d2 : ¬ (4096 : Int) < (log : Int) := by omega
        by_cases a3 : n < log + 3
        . have d3 : (n : Int) - 3 < (log : Int) := by omega
          go_wp2
          exact HFin.out _ rfl rfl
        . have d3 : ¬ (n : Int) - 3 < (log : Int) := by omega
          have d4 : (log : Int) <= (p : Int) := by omega
          go_wp2
          exact HFin.out _ rfl rfl
end Go.Proofs.YthambopnmhkeeaaGreat

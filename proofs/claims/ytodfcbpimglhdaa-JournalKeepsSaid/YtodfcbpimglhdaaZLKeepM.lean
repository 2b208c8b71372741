/- JournalKeeps: what is kept behind crashes, in plain lists and in memory. -/
import Derived.Test.YtodfcbpimglhdaaZLHome
import Derived.Laws.AppendOwnNone

namespace Go.Proofs.Ytodfcbpimglhdaa
open Go.RowKit
open Fr (SlW OwnW OwnS SlS)

section
variable {N n : Nat} {J : JS} {D : DevS}
theorem opn_len (D : DevS) : D.opn.2.1.pend.length ≤ D.pend.length + D.disk.length + 2 := by
  unfold DevS.opn
  split
  · show D.pend.length ≤ _; omega
  · split
    · show D.pend.length ≤ _; omega
    · rename_i J hJ
      obtain ⟨ok, _⟩ := find_ok hJ
      obtain ⟨h1, h2, h3⟩ := redoN_keeps (J.log + 1) J D ok
      have hl : J.left ≤ J.log := Nat.sub_le _ _
      have hl1 := ok.l1
      have e : J.redo D = J.redoN D (J.log + 1) := rfl
      simp only
      rw [e]
      split
      · show (J.redoN D (J.log + 1)).2.1.pend.length ≤ _; omega
      · have hc := JS.ckp_len (J := (J.redoN D (J.log + 1)).2.2) (D := (J.redoN D (J.log + 1)).2.1)
        split
        · show ((J.redoN D (J.log + 1)).2.2.ckp (J.redoN D (J.log + 1)).2.1).2.1.pend.length ≤ _; omega
        · show ((J.redoN D (J.log + 1)).2.2.ckp (J.redoN D (J.log + 1)).2.1).2.1.pend.length ≤ _; omega
/-- A crash, a fuse, Open; and, if the power goes again, a crash and Open once more. -/
theorem keeps_math {P : (Nat → ByteArray) → Prop} (ok : D.Ok) (hs : Safe N 70 D P) (hN : N + 2 < 1000000) (kl : List Bool) (t c q : Int) (hq : q ≤ 9223372036854775807) :
    ∃ X, P X ∧ ((∃ D2 J2, ((D.crash kl t c).setFuse q).opn = (0, D2, some J2) ∧ D2.homeL = hl X ∧ D2.pend = []) ∨
      (∃ D2, ((D.crash kl t c).setFuse q).opn = (4, D2, none) ∧ D2.pend.length ≤ 1000 ∧ ∀ kl2 t2 c2, ∃ D3 J3, (D2.crash kl2 t2 c2).opn = (0, D3, some J3) ∧ D3.homeL = hl X ∧ D3.pend = [])) := by
  obtain ⟨X, J, F, hX, hrec⟩ := hs (left kl t (min (max c 0) 256).toNat) (left_256 kl t c)
  have hl0 := opn_len ((D.crash kl t c).setFuse q)
  refine ⟨X, hX, ?_⟩
  have hdl : ((D.crash kl t c).setFuse q).disk.length = 70 := hrec.len
  have hpl : ((D.crash kl t c).setFuse q).pend.length = 0 := rfl
  rcases open_safe (D := (D.crash kl t c).setFuse q) hrec (by omega) ((ok.crash kl t c).setFuse q hq) rfl rfl with ⟨a1, a2, a3, a4⟩ | ⟨a1, a2, a3⟩
  · exact .inl ⟨_, _, Prod.ext a1 (Prod.ext rfl a2), a3.homeL, a4⟩
  · refine .inr ⟨((D.crash kl t c).setFuse q).opn.2.1, Prod.ext a1 (Prod.ext rfl a2), by omega, fun kl2 t2 c2 => ?_⟩
    obtain ⟨Y, J3, hY, b1, b2, b3, b4, _⟩ := crash_open a3.dok a3.safe (by omega) kl2 t2 c2
    subst hY
    exact ⟨_, _, Prod.ext b1 (Prod.ext rfl b2), b3.homeL, b4⟩
end
theorem full_noughts : textOf (fun _ => 0) = noughts := by decide +kernel
theorem put_take (H : Nat → ByteArray) (L : List Wr) (j : Nat) (h : j < L.length) (k : Nat) (hx : L[j].1 = ((52 + k : Nat) : Int)) : hl (put H (L.take (j + 1))) = (hl (put H (L.take j))).set k L[j].2 := by
  rw [take_snoc4 L j h]; exact hl_put H (L.take j) L[j] k hx

/-- The statements' world, and two rows of texts that stand by. -/
structure Kp (w1 w : World) (wb a p : Nat) (S : Nat → Prop) (J : JS) (D : DevS) (u v : Value) (M A : List ByteArray) : Prop where
  wd : Wd w1 w wb a p S J D
  mo : OwnS w1.heap.size w u M
  af : OwnS w1.heap.size w v A
  mo' : ∀ g, u.ownBlock = some g → ¬ S g ∧ g ≠ a ∧ g ≠ wb
  af' : ∀ g, v.ownBlock = some g → ¬ S g ∧ g ≠ a ∧ g ≠ wb
  ne : ∀ g, u.ownBlock = some g → v.ownBlock ≠ some g
section
variable {w1 w w' : World} {wb a p : Nat} {S : Nat → Prop} {J J' : JS} {D D' : DevS} {u v : Value} {M A : List ByteArray}
theorem Kp.below (h : Kp w1 w wb a p S J D u v M A) (hb : Below w.heap.size w w') : Kp w1 w' wb a p S J D u v M A :=
  ⟨h.wd.below hb, h.mo.below hb, h.af.below hb, h.mo', h.af', h.ne⟩
theorem Kp.step (h : Kp w1 w wb a p S J D u v M A) {S' : Nat → Prop} (hS : ∀ k, S' k → S k ∨ w.heap.size ≤ k) (ho : Only (fun k => S k ∨ k = a) w w') (hw : Wd w1 w' wb a p S' J' D') : Kp w1 w' wb a p S' J' D' u v M A := by
  have hk : ∀ x : Value, ∀ L, OwnS w1.heap.size w x L → (∀ g, x.ownBlock = some g → ¬ S g ∧ g ≠ a ∧ g ≠ wb) → OwnS w1.heap.size w' x L ∧ ∀ g, x.ownBlock = some g → ¬ S' g ∧ g ≠ a ∧ g ≠ wb := fun x L h1 h2 =>
    ⟨own_keep h1 (fun g hg hlt => ho.block g hlt (fun hk => by obtain ⟨i, j, _⟩ := h2 g hg; rcases hk with hk | hk; exact i hk; exact j hk)),
      fun g hg => ⟨fun hk => by
        obtain ⟨i, j, _⟩ := h2 g hg
        have := (h1.lt g hg).2
        rcases hS g hk with h3 | h3
        · exact i h3
        · omega, (h2 g hg).2⟩⟩
  obtain ⟨i1, i2⟩ := hk u M h.mo h.mo'
  obtain ⟨j1, j2⟩ := hk v A h.af h.af'
  exact ⟨hw, i1, j1, i2, j2, h.ne⟩
theorem Wd.jleavesX (h : Wd w1 w wb a p S J D) (hl : JLeaves 85 S w w' a p D' J') : ∃ S', Wd w1 w' wb a p S' J' D' ∧ (∀ k, S' k → S k ∨ w.heap.size ≤ k) ∧ Only (fun k => S k ∨ k = a) w w' := by
  obtain ⟨S', hS', hs, hj, ho⟩ := hl
  have hla := h.jr.lt
  have hlw := h.lt
  have hsz := h.bel.size
  refine ⟨S', ⟨fun k hk => ?_, hs, hj, ?_, fun hk => ?_, fun hk => ?_, h.aw, h.la, h.lw, ?_⟩, hS', ho⟩
  · rcases hS' k hk with h1 | h1
    · exact h.own k h1
    · omega
  · rw [ho.block wb hlw (fun hk => by rcases hk with hk | hk; exact h.nw hk; exact h.aw hk.symm)]; exact h.wh
  · rcases hS' a hk with h1 | h1
    · exact h.na h1
    · omega
  · rcases hS' wb hk with h1 | h1
    · exact h.nw h1
    · omega
  · exact h.bel.trans (ho.below hsz (fun k _ hk => by rcases hk with hk | hk; exact h.own k hk; rw [hk]; exact h.la))
theorem Kp.jleaves (h : Kp w1 w wb a p S J D u v M A) (hl : JLeaves 85 S w w' a p D' J') : ∃ S', Kp w1 w' wb a p S' J' D' u v M A ∧ (∀ k, S' k → S k ∨ w.heap.size ≤ k) ∧ Only (fun k => S k ∨ k = a) w w' := by
  obtain ⟨S', h1, h2, h3⟩ := h.wd.jleavesX hl
  exact ⟨S', h.step h2 h3 h1, h2, h3⟩
theorem Kp.leaves (h : Kp w1 w wb a p S J D u v M A) (hl : Leaves S w w' p D') : ∃ S', Kp w1 w' wb a p S' J D' u v M A := by
  obtain ⟨S', h1, _⟩ := h.jleaves (JLeaves.of hl h.wd.jr h.wd.na)
  exact ⟨S', h1⟩
theorem Kp.fuse (h : Kp w1 w wb a p S J D u v M A) (n : Int) (hn : n ≤ 9223372036854775807) : Calls Try.prog 27 #[.pointer (some ⟨p, 0, none⟩), .int .i64 n] w fun e w' => e = .returned (.tuple #[]) ∧ ∃ S', Kp w1 w' wb a p S' J (D.setFuse n) u v M A :=
  (fuse_any n hn h.wd.dev).mono fun e w' ⟨he, h1, h2⟩ => ⟨he, h.leaves (.mk h1 h2)⟩
theorem Kp.crash (h : Kp w1 w wb a p S J D u v M A) (C : Act4) (hk : KeepIn w1 C) (hl : C.keep.length ≤ 200) (hp : D.pend.length ≤ 600000) :
    Calls Try.prog 31 #[.pointer (some ⟨p, 0, none⟩), .slice C.kao C.keep.length C.kcap, .int .i64 C.at_, .int .i64 C.n] w fun e w' => e = .returned (.tuple #[]) ∧ ∃ S', Kp w1 w' wb a p S' J (D.crash C.keep C.at_ C.n) u v M A := by
  refine (crash_any C.keep C.at_ C.n _ (by omega) (by omega) h.wd.dev ⟨_, _, rfl, ?_⟩).mono fun e w' ⟨he, h1, h2⟩ => ⟨he, h.leaves (.mk h1 h2)⟩
  rcases hk with hk | ⟨g, off, h1, h2, h3⟩
  · exact .inl hk
  · exact .inr ⟨g, off, h1, fun hs => by have := h.wd.own g hs; omega, fun i hi => (h.wd.bel.cell (p := ⟨g, off + i, none⟩) h2).trans (h3 i hi)⟩
/-- Open that fails. -/
theorem Kp.opnBad (h : Kp w1 w wb a p S J D u v M A) (hp : D.pend.length ≤ 600000) {e0 : Int} (hr : D.opn = (e0, D', none)) :
    Calls Try.prog 16 #[.pointer (some ⟨p, 0, none⟩)] w fun e w' => e = .returned (.tuple #[.pointer none, .int .i64 e0]) ∧ ∃ S', Kp w1 w' wb a p S' J D' u v M A := by
  refine (open_any h.wd.dev hp).mono fun e w' hO => ?_
  unfold Opened at hO
  rw [hr] at hO
  obtain ⟨S', h1, h2, h3, h4⟩ := hO
  exact ⟨h4, h.leaves ⟨S', h1, h2, h3⟩⟩
/-- Open that is OK, and its journal is taken up at once. -/
theorem Kp.opnGood (h : Kp w1 w wb a p S J D u v M A) (hp : D.pend.length ≤ 600000) (hr : D.opn = (0, D', some J')) :
    Calls Try.prog 16 #[.pointer (some ⟨p, 0, none⟩)] w fun e w' => ∃ a', e = .returned (.tuple #[.pointer (some ⟨a', 0, none⟩), .int .i64 0]) ∧ w'.frozen? ⟨wb, 1, none⟩ = false ∧ w'.cell? ⟨wb, 1, none⟩ = some (.pointer (some ⟨a, 0, none⟩)) ∧ ∃ S', Kp w1 (w'.setCell ⟨wb, 1, none⟩ (.pointer (some ⟨a', 0, none⟩))) wb a' p S' J' D' u v M A := by
  refine (open_any h.wd.dev hp).mono fun e w' hO => ?_
  unfold Opened at hO
  rw [hr] at hO
  obtain ⟨S', h1, h2, h3, a', h4, h5, h6, h7⟩ := hO
  have hwh : w'.heap[wb]? = some (.cells #[.pointer (some ⟨p, 0, none⟩), .pointer (some ⟨a, 0, none⟩)] 65 (0, 0)) := by rw [h3.block wb h.wd.lt h.wd.nw]; exact h.wd.wh
  refine ⟨a', h4, free_at hwh 1, by rw [cell_at hwh]; rfl, S', ?_⟩
  have hk : ∀ x : Value, ∀ L, OwnS w1.heap.size w x L → (∀ g, x.ownBlock = some g → ¬ S g ∧ g ≠ a ∧ g ≠ wb) → OwnS w1.heap.size (w'.setCell ⟨wb, 1, none⟩ (.pointer (some ⟨a', 0, none⟩))) x L ∧ ∀ g, x.ownBlock = some g → ¬ S' g ∧ g ≠ a' ∧ g ≠ wb := fun x L i1 i2 =>
    ⟨own_keep i1 (fun g hg hlt => by
      obtain ⟨j1, j2, j3⟩ := i2 g hg
      rw [Below.heap_setCell _ _ _ _ j3]
      exact h3.block g hlt j1),
      fun g hg => by
        obtain ⟨j1, j2, j3⟩ := i2 g hg
        have := (i1.lt g hg).2
        refine ⟨fun hk => ?_, by omega, j3⟩
        rcases h1 g hk with h8 | h8
        · exact j1 h8
        · omega⟩
  obtain ⟨i1, i2⟩ := hk u M h.mo h.mo'
  obtain ⟨j1, j2⟩ := hk v A h.af h.af'
  exact ⟨h.wd.take h1 h2 h3 h5 h6 h7, i1, j1, i2, j2, h.ne⟩
end

section
variable {N n : Nat} {J : JS} {D : DevS} {L : List Wr} {H : Nat → ByteArray} {F : List (List Wr)}
theorem JS.chk_four (J : JS) (n : Nat) (L : List Wr) : J.chk n L ≠ 4 := by
  have h1 : ∀ x, J.chk1 n x ≠ 4 := fun x => by
    unfold JS.chk1
    split
    · omega
    · split <;> omega
  have h2 : ∀ l : List Wr, J.chkL n l ≠ 4 := fun l => by
    induction l with
    | nil => unfold JS.chkL; omega
    | cons x l ih =>
      unfold JS.chkL
      split
      · exact ih
      · exact h1 x
  unfold JS.chk
  split
  · omega
  · exact h2 L
theorem keep_cases (h : Sync N 70 J D H F) (hN : N + 2 < 1000000) (L : List Wr) :
    ((J.commit D L).1 ≠ 0 ∧ (J.commit D L).1 ≠ 4 ∧ (J.commit D L).2.1 = D ∧ (J.commit D L).2.2 = J) ∨
      ((∀ x ∈ L, ∃ k : Nat, k < 18 ∧ x.1 = 52 + (k : Int)) ∧ L.length ≤ 48 ∧ (((J.commit D L).1 = 0 ∧ ∃ F', Sync (N + 2) 70 (J.commit D L).2.2 (J.commit D L).2.1 (put H L) F') ∨ ((J.commit D L).1 = 4 ∧ Gone (N + 2) 70 (J.commit D L).2.1 (fun X => X = H ∨ X = put H L)))) := by
  by_cases hc : J.chk 70 L = 0
  · right
    obtain ⟨l1, l2, hw⟩ := (J.chk_ok 70 L).1 hc
    have hlg := h.pre.good.lg
    refine ⟨fun x hx => ?_, l2, ?_⟩
    · obtain ⟨a, b, _⟩ := hw x hx
      unfold JS.home at a
      exact ⟨(x.1 - 52).toNat, by omega, by omega⟩
    · rcases commit_safe h hN hc with ⟨a, F', b⟩ | ⟨a, b⟩
      · exact .inl ⟨a, _, b⟩
      · exact .inr ⟨a, b⟩
  · left
    have h4 := J.chk_four 70 L
    have hb := commit_bad J D L (by rw [h.pre.len]; exact hc)
    rw [hb, h.pre.len]
    exact ⟨by show ((J.chk 70 L : Nat) : Int) ≠ 0; omega, by show ((J.chk 70 L : Nat) : Int) ≠ 4; omega, rfl, rfl⟩
end
section
variable {w1 w W : World} {wb a p : Nat} {S : Nat → Prop} {J : JS} {D : DevS} {u v x : Value} {M A : List ByteArray} {L : List Wr}
/-- Commit of writes that lie in memory of their own; the rows stand by. -/
theorem Kp.commit (h : Kp w1 w wb a p S J D u v M A) (hb : Below w.heap.size w W) (ho : OwnW w.heap.size W x L) (ok : J.Ok D.disk.length) (hp : D.pend.length ≤ 700000) (hl : L.length ≤ 1000) (hs : ∀ y ∈ L, y.2.size ≤ maxLen) :
    Calls Try.prog 30 #[.pointer (some ⟨a, 0, none⟩), x] W fun e w' => e = .returned (.int .i64 (J.commit D L).1) ∧ (∃ S', Kp w1 w' wb a p S' (J.commit D L).2.2 (J.commit D L).2.1 u v M A) ∧ OwnW w.heap.size w' x L := by
  have h2 := h.below hb
  have hla := h.wd.jr.lt
  have hlw := h.wd.lt
  have hg' : ∀ g off n c, x = .slice (some ⟨g, off, none⟩) n c → w.heap.size ≤ g ∧ g < W.heap.size := fun g off n c hu => ho.lt g (by rw [hu]; rfl)
  refine (commit_any h2.wd.jr h2.wd.dev h2.wd.na ok hp hl hs ho.sl (fun g off n c hu hS => ?_) ⟨fun g off n c hu => (hg' g off n c hu).2, fun g off n c hu => ?_⟩).mono fun e w' ⟨he, hj⟩ => ?_
  · have := h.wd.dev.lt _ hS
    have := (hg' g off n c hu).1
    omega
  · have := (hg' g off n c hu).1
    omega
  · obtain ⟨S', k1, k2, k3⟩ := h2.jleaves hj
    refine ⟨he, ⟨S', k1⟩, own_keep ho (fun g hg hlt => k3.block g hlt (fun hk => ?_))⟩
    have := (ho.lt g hg).1
    rcases hk with hk | hk
    · have := h.wd.dev.lt g hk; omega
    · omega
end
/-- An empty row of one's own. -/
theorem own_empty (w : World) : OwnS w.heap.size (w.alloc (.cells #[] 9)) (.slice (some ⟨w.heap.size, 0, none⟩) 0 0) [] := World.ownsRow_made w #[] 0 (Nat.le_refl _) (Nat.zero_le _) rfl
section
variable {w1 w w' : World} {wb a p : Nat} {S : Nat → Prop} {J : JS} {D : DevS} {u v : Value} {M A : List ByteArray}
/-- A copy of the first row is made. -/
theorem Kp.start {w4 : World} (h : Wd w1 w4 wb a p S J D) (hb : Below w4.heap.size w4 w) (hm : OwnS w4.heap.size w u M) (hv : OwnS w.heap.size w' v A) (hg : (w.alloc (.cells #[] 9)).grownBy w' (some w.heap.size)) : Kp w1 w' wb a p S J D u v M A := by
  have hb' : Below w.heap.size w w' := ((Below.refl w.heap.size w).alloc (Nat.le_refl _) (.cells #[] 9)).grown hg (by simp) (fun k hk => by cases hk; exact Nat.le_refl _)
  have h4 := h.bel.size
  have h5 := hb.size
  have hlw := h.lt
  have hla := h.jr.lt
  refine ⟨h.below (hb.trans (hb'.mono h5)), (hm.below hb').mono h4, hv.mono (by omega), fun g hg => ?_, fun g hg => ?_, fun g hg he => ?_⟩
  · have := (hm.lt g hg).1
    exact ⟨fun hs => by have := h.dev.lt g hs; omega, by omega, by omega⟩
  · have := (hv.lt g hg).1
    exact ⟨fun hs => by have := h.dev.lt g hs; omega, by omega, by omega⟩
  · have := (hm.lt g hg).2
    have := (hv.lt g he).1
    omega
/-- A copy of the second row takes the place of the first. -/
theorem Kp.copy (h : Kp w1 w wb a p S J D u v M A) {u' : Value} (hv : OwnS w.heap.size w' u' A) (hg : (w.alloc (.cells #[] 9)).grownBy w' (some w.heap.size)) : Kp w1 w' wb a p S J D u' v A A := by
  have hb' : Below w.heap.size w w' := ((Below.refl w.heap.size w).alloc (Nat.le_refl _) (.cells #[] 9)).grown hg (by simp) (fun k hk => by cases hk; exact Nat.le_refl _)
  have h4 := h.wd.bel.size
  have hlw := h.wd.lt
  have hla := h.wd.jr.lt
  refine ⟨h.wd.below hb', hv.mono h4, h.af.below hb', fun g hg => ?_, h.af', fun g hg he => ?_⟩
  · have := (hv.lt g hg).1
    exact ⟨fun hs => by have := h.wd.dev.lt g hs; omega, by omega, by omega⟩
  · have := (hv.lt g hg).1
    have := (h.af.lt g he).2
    omega
/-- A store into the second row. -/
theorem Kp.store {g c : Nat} (h : Kp w1 w wb a p S J D u (.slice (some ⟨g, 0, none⟩) A.length c) M A) (j : Nat) (s : ByteArray) : Kp w1 (w.setCell ⟨g, j, none⟩ (.string s)) wb a p S J D u (.slice (some ⟨g, 0, none⟩) A.length c) M (A.set j s) := by
  obtain ⟨h1, h2, h3⟩ := h.af' g rfl
  have ho : Only (fun k => k = g) w (w.setCell ⟨g, j, none⟩ (.string s)) := (Only.refl (fun k => k = g) w).setCell (p := ⟨g, j, none⟩) (fun _ => rfl) _
  have hge := (h.af.lt g rfl).1
  refine ⟨⟨h.wd.own, h.wd.dev.kept ho (fun k hk e => h1 (e ▸ hk)), h.wd.jr.only ho (fun e => h2 e.symm), by rw [ho.block wb h.wd.lt (fun e => h3 e.symm)]; exact h.wd.wh, h.wd.na, h.wd.nw, h.wd.aw, h.wd.la, h.wd.lw, h.wd.bel.setCell (p := ⟨g, j, none⟩) hge _⟩, own_keep h.mo (fun k hk _ => Below.heap_setCell _ _ _ _ (fun e => ?_)), ?_, h.mo', h.af', h.ne⟩
  · simp only at e
    subst e
    exact h.ne k hk rfl
  · have := h.af.store j s
    unfold OwnS at this ⊢
    rw [List.length_set] at this ⊢
    exact this
end
theorem ownS_nilcap {B : Nat} {w : World} {v : Value} {L : List ByteArray} (h : OwnS B w v L) : ∀ n c, v = .slice none n c → c = 0 := by
  intro n c hv
  rcases h.2 with ⟨e, _⟩ | ⟨g, cap, cur, e, _⟩
  · rw [e] at hv; cases hv; rfl
  · rw [e] at hv; cases hv
end Go.Proofs.Ytodfcbpimglhdaa

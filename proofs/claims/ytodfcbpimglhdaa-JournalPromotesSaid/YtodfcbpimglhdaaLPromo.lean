/- JournalPromotes: the walk. -/
import Derived.Test.YtodfcbpimglhdaaLShown
namespace Go.Proofs.Ytodfcbpimglhdaa
open Go.RowKit
open Fr (SlW)

theorem laid_some {g : Nat → ByteArray} {log p : Nat} (L : List Wr) : ∀ (F : List (List Wr)) (o s : Nat), LaidF g log p o s (F ++ [L]) → ∀ j (h : j < L.length), ∃ i, g (2 + (p + i) % log) = L[j].2
  | [], o, s, h, j, hj => ⟨o + (j + 1), by rw [← Nat.add_assoc]; exact h.2.1 j hj⟩
  | _ :: F, o, s, h, j, hj => laid_some L F _ _ h.2.2 j hj

section
variable {D : DevS} {J : JS} {L : List Wr} {n N : Nat} {H : Nat → ByteArray} {F : List (List Wr)}
theorem left_256 (kl : List Bool) (torn cut : Int) (k : Nat) : left kl torn (min (max cut 0) 256).toNat k ≤ 256 := left_le _ _ _ _ (by omega)
/-- A crash, and Open behind it. -/
theorem crash_open (ok : D.Ok) {P : (Nat → ByteArray) → Prop} (h : Safe N n D P) (hN : N + 1 < 1000000) (kl : List Bool) (torn cut : Int) :
    ∃ X J', P X ∧ (D.crash kl torn cut).opn.1 = 0 ∧ (D.crash kl torn cut).opn.2.2 = some J' ∧ Sync (N + 1) n J' (D.crash kl torn cut).opn.2.1 X [] ∧ (D.crash kl torn cut).opn.2.1.pend = [] ∧ (D.crash kl torn cut).opn.2.1.fused = false ∧ J'.full = 0 := by
  obtain ⟨X, J, F, h1, h2⟩ := h (left kl torn (min (max cut 0) 256).toNat) (left_256 kl torn cut)
  obtain ⟨a, b, c, d⟩ := open_sure (D := D.crash kl torn cut) h2 hN (ok.crash kl torn cut) rfl rfl rfl
  exact ⟨X, J.next', h1, a, b, c, d, (nf_opn (D := D.crash kl torn cut) rfl).1, rfl⟩
/-- A flush with a fuse of nothing. -/
theorem fuse_flush (hde : D.dead = false) : ((D.setFuse 0).fl).1 = 4 ∧ ((D.setFuse 0).fl).2.disk = D.disk ∧ ((D.setFuse 0).fl).2.pend = D.pend := by
  have ht : (D.setFuse 0).tk = (false, { D.setFuse 0 with dead := true }) := by
    unfold DevS.tk DevS.setFuse; simp
  unfold DevS.fl
  have : (D.setFuse 0).dead = false := hde
  rw [this, ht]
  simp [DevS.setFuse]
/-- All of it. -/
theorem promo_math {b : Nat} {T : ByteArray} (hb : 52 ≤ b) (hb2 : b < 70) (zT : T.size = 256) :
    ∃ D1 J1 D3 D5 J5, Jb.commit (Db 70) [((b : Int), T)] = (0, D1, J1) ∧ D1.Ok ∧ D1.pend.length ≤ 1000 ∧ D1.rd b = (T, 0) ∧ D1.dead = false ∧ D1.disk.length = 70 ∧ (∃ i, 2 ≤ i ∧ i < 52 ∧ D1.disk.getD i ByteArray.empty = T) ∧
      (D1.setFuse 0).fl = (4, D3) ∧ D3.pend.length ≤ 1000 ∧ (D3.crash [] (-1) 0).opn = (0, D5, some J5) ∧ D5.pend.length ≤ 1000 ∧ D5.rd b = (T, 0) := by
  obtain ⟨_, hsy, hpn, hfu⟩ := begin_sync 70 (by omega) (by omega)
  generalize Db 70 = DB at *
  have hhome : Jb.home = 52 := rfl
  have hc : Jb.chk 70 [((b : Int), T)] = 0 := by
    refine (Jb.chk_ok 70 _).2 ⟨by simp, by simp, fun x hx => ?_⟩
    simp only [List.mem_singleton] at hx
    subst hx
    exact ⟨by rw [hhome]; show ((52 : Nat) : Int) ≤ (b : Int); omega, by show (b : Int) < ((70 : Nat) : Int); omega, zT⟩
  obtain ⟨a1, ⟨F', a2⟩, a3, a4⟩ := commit_sure hsy (by omega) hc hfu
  have hlen := commit_len Jb DB [((b : Int), T)]
  rw [hpn] at hlen
  have hput : put (fun _ => noughts) [((b : Int), T)] b = T := by
    unfold put
    exact vN_unique (P := natW [((b : Int), T)]) (x := (b, T)) (by simp [natW]) (fun y hy he => by simp [natW] at hy; subst hy; rfl)
  generalize hR : Jb.commit DB [((b : Int), T)] = R at *
  obtain ⟨e, D1, J1⟩ := R
  simp only at a1 a2 a3 a4 hlen
  subst a1
  have hl70 := a2.pre.len
  have hread := a2.pre.read b hb hb2
  rw [hput] at hread
  obtain ⟨f1, f2, f3⟩ := fuse_flush a2.pre.live
  have okF : ((D1.setFuse 0).fl).2.Ok := fl_ok (a2.pre.dok.setFuse 0 (by omega))
  generalize hF : (D1.setFuse 0).fl = RF at *
  obtain ⟨ef, D3⟩ := RF
  simp only at f1 f2 f3 okF
  subst f1
  have hsafe : Safe 4 70 D3 (· = put (fun _ => noughts) [((b : Int), T)]) := by
    intro f hf
    have := a2.pre.safe f hf
    rw [f2, f3]; exact this
  obtain ⟨X, J', hX, c1, c2, c3, c4, _, _⟩ := crash_open okF hsafe (by omega) [] (-1) 0
  subst hX
  generalize hO : (D3.crash [] (-1) 0).opn = RO at *
  obtain ⟨eo, D5, J5⟩ := RO
  simp only at c1 c2 c3 c4
  subst c1 c2
  refine ⟨D1, J1, D3, D5, J', rfl, a2.pre.dok, by simp at hlen; omega, ?_, a2.pre.live, hl70, ?_, hF, by rw [f3]; simp at hlen; omega, hO, by rw [c4]; simp, ?_⟩
  · rw [DevS.rd_live a2.pre.live b (by omega), hread]
  · have hg := a2.pre.good
    obtain ⟨i, hi⟩ := laid_some [((b : Int), T)] F' 0 J1.s hg.laid 0 (by simp)
    have hlg := hg.lg
    have := Nat.mod_lt (J1.p + i) (show 0 < J1.log by omega)
    exact ⟨2 + (J1.p + i) % J1.log, by omega, by omega, hi⟩
  · have h5 := c3.pre.read b hb hb2
    rw [hput] at h5
    rw [DevS.rd_live c3.pre.live b (by rw [c3.pre.len]; omega), h5]
end

/-- The statements' world, and a write that stands by. -/
structure WdF (w0 w : World) (wb a p : Nat) (S : Nat → Prop) (J : JS) (D : DevS) (g : Nat) (x : Int) (t : ByteArray) : Prop where
  wd : Wd w0 w wb a p S J D
  gh : w.heap[g]? = some (.cells #[.int .i64 x, .string t] 71 (0, 0))
  gs : ¬ S g
  ga : g ≠ a
section
variable {w0 w w' : World} {wb a p g : Nat} {S : Nat → Prop} {J J' : JS} {D D' : DevS} {x : Int} {t : ByteArray}
theorem WdF.lt (h : WdF w0 w wb a p S J D g x t) : g < w.heap.size := (Array.getElem?_eq_some_iff.1 h.gh).1
theorem WdF.d0 (h : WdF w0 w wb a p S J D g x t) : w.cell? ⟨g, 0, none⟩ = some (.int .i64 x) := by rw [cell_at h.gh]; rfl
theorem WdF.d1 (h : WdF w0 w wb a p S J D g x t) : w.cell? ⟨g, 1, none⟩ = some (.string t) := by rw [cell_at h.gh]; rfl
theorem WdF.below (h : WdF w0 w wb a p S J D g x t) (hb : Below w.heap.size w w') : WdF w0 w' wb a p S J D g x t :=
  ⟨h.wd.below hb, by rw [hb.block g h.lt]; exact h.gh, h.gs, h.ga⟩
theorem WdF.jleaves (h : WdF w0 w wb a p S J D g x t) (hl : JLeaves 85 S w w' a p D' J') : ∃ S', WdF w0 w' wb a p S' J' D' g x t := by
  have hl' := hl
  obtain ⟨S1, hS1, hs1, hj1, ho1⟩ := hl'
  obtain ⟨S', hw⟩ : ∃ S', Wd w0 w' wb a p S' J' D' ∧ ∀ k, S' k → S k ∨ w.heap.size ≤ k := by
    have h2 := h.wd
    have hla := h2.jr.lt
    have hlw := h2.lt
    have hsz := h2.bel.size
    refine ⟨S1, ⟨fun k hk => ?_, hs1, hj1, ?_, fun hk => ?_, fun hk => ?_, h2.aw, h2.la, h2.lw, ?_⟩, hS1⟩
    · rcases hS1 k hk with h1 | h1
      · exact h2.own k h1
      · omega
    · rw [ho1.block wb hlw (fun hk => by rcases hk with hk | hk; exact h2.nw hk; exact h2.aw hk.symm)]; exact h2.wh
    · rcases hS1 a hk with h1 | h1
      · exact h2.na h1
      · omega
    · rcases hS1 wb hk with h1 | h1
      · exact h2.nw h1
      · omega
    · exact h2.bel.trans (ho1.below hsz (fun k _ hk => by rcases hk with hk | hk; exact h2.own k hk; rw [hk]; exact h2.la))
  refine ⟨S', hw.1, ?_, fun hk => ?_, h.ga⟩
  · rw [ho1.block g h.lt (fun hk => by rcases hk with hk | hk; exact h.gs hk; exact h.ga hk)]; exact h.gh
  · rcases hw.2 g hk with h1 | h1
    · exact h.gs h1
    · have := h.lt; omega
theorem WdF.leaves (h : WdF w0 w wb a p S J D g x t) (hl : Leaves S w w' p D') : ∃ S', WdF w0 w' wb a p S' J D' g x t := h.jleaves (JLeaves.of hl h.wd.jr h.wd.na)
/-- Commit of a write that was made for it. -/
theorem WdF.commit1 (h : WdF w0 w wb a p S J D g x t) (ok : J.Ok D.disk.length) (hp : D.pend.length ≤ 700000) (i : Int) (s : ByteArray) (hs : s.size ≤ maxLen) {e : Int} {D' : DevS} {J' : JS} (hc : J.commit D [(i, s)] = (e, D', J')) :
    Calls Try.prog 30 #[.pointer (some ⟨a, 0, none⟩), .slice (some ⟨w.heap.size, 0, none⟩) 1 1] (w.alloc (.cells #[.int .i64 i, .string s] 71)) fun r w' => r = .returned (.int .i64 e) ∧ ∃ S', WdF w0 w' wb a p S' J' D' g x t := by
  have hb : Below w.heap.size w (w.alloc (.cells #[.int .i64 i, .string s] 71)) := (Below.refl _ _).alloc (Nat.le_refl _) _
  have h2 := h.below hb
  have hla := h.wd.jr.lt
  have := commit_any (L := [(i, s)]) h2.wd.jr h2.wd.dev h2.wd.na ok hp (by simp) (fun y hy => by simp at hy; subst hy; exact hs) (one_write w i s) (fun g off n' c' hv hg => by cases hv; have := h.wd.dev.lt _ hg; omega) ⟨fun g off n' c' hv => by cases hv; simp, fun g off n' c' hv => by cases hv; omega⟩
  rw [hc] at this
  exact this.mono fun r w' ⟨he, hl⟩ => ⟨he, h2.jleaves hl⟩
end
theorem promo_pack {b : Nat} {T : ByteArray} (hb : 52 ≤ b) (hb2 : b < 70) (zT : T.size = 256) :
    ∃ DB D1 J1 D3 D5 J5, (∀ w, Calls Try.prog 26 #[] w fun e w' => ∃ wb a p S, e = .returned (.tuple #[.pointer (some ⟨wb, 0, none⟩), .bool true]) ∧ Wd w w' wb a p S Jb DB) ∧ Jb.Ok DB.disk.length ∧ DB.pend.length ≤ 1000 ∧
      Jb.commit DB [((b : Int), T)] = (0, D1, J1) ∧ D1.Ok ∧ D1.pend.length ≤ 1000 ∧ D1.rd b = (T, 0) ∧ D1.dead = false ∧ D1.disk.length = 70 ∧ (∃ i, 2 ≤ i ∧ i < 52 ∧ D1.disk.getD i ByteArray.empty = T) ∧
      (D1.setFuse 0).fl = (4, D3) ∧ D3.pend.length ≤ 1000 ∧ (D3.crash [] (-1) 0).opn = (0, D5, some J5) ∧ D5.pend.length ≤ 1000 ∧ D5.rd b = (T, 0) := by
  obtain ⟨D1, J1, D3, D5, J5, m⟩ := promo_math hb hb2 zT
  obtain ⟨_, hsy, hpn, _⟩ := begin_sync 70 (by omega) (by omega)
  exact ⟨Db 70, D1, J1, D3, D5, J5, begin_any, by rw [hsy.pre.len]; exact hsy.pre.good.ok, by rw [hpn]; simp, m⟩

set_option maxRecDepth 100000 in
set_option maxHeartbeats 2000000 in
theorem promo_walk (at_ : Int) (s : ByteArray) (w : World) (ha : -9223372036854775808 ≤ at_ ∧ at_ ≤ 9223372036854775807) (hs : s.size ≤ maxLen) :
    Calls Try.prog 8 #[.int .i64 at_, .string s] w fun e w' => e = .returned (.bool true) ∧ Below w.heap.size w w' := by
  have CS := Lib.hid (shown_any w)
  unfold maxLen at hs
  by_cases h6 : s.size ≤ 600
  · have h6' : ¬ (600 : Int) < (s.size : Int) := by omega
    have CF := Lib.hid (fun W => fine_any at_ s W ha h6)
    have hpk := pickI_lt at_ 18 (by omega)
    obtain ⟨b, hbn⟩ : ∃ b : Nat, 52 + pickI at_ 18 = (b : Int) := ⟨(52 + pickI at_ 18).toNat, by omega⟩
    rw [hbn] at CF
    have hb1 : 52 ≤ b := by omega
    have hb2 : b < 70 := by omega
    clear hbn hpk
    obtain ⟨T, hT⟩ : ∃ T, textOf (byteAt s) = T := ⟨_, rfl⟩
    rw [hT] at CF
    have zT : T.size = 256 := by rw [← hT]; exact textOf_size _
    clear hT h6
    obtain ⟨DB, D1, J1, D3, D5, J5, hbeg, hok, hpn, m1, m2, m3, m4, m5, m6, m7, m8, m9, m10, m11, m12⟩ := promo_pack hb1 hb2 zT
    have CB := Lib.hid hbeg
    have HM1 := Lib.hid m1; have HM4 := Lib.hid m4; have HM7 := Lib.hid m7; have HM8 := Lib.hid m8; have HM10 := Lib.hid m10; have HM12 := Lib.hid m12
    have HOK := Lib.hid hok; have HPN := Lib.hid hpn
    clear m1 m4 m7 m8 m10 m12 hbeg hok hpn
    go_enter Try.func8, Try.ntmps8
    go_wp2_with fail
    refine CS.out.mono ?_
    rintro e w1 ⟨rfl, hb1'⟩
    have HB1 := Lib.hid hb1'; clear hb1'
    go_wp2_with fail
    refine (CB.out _).mono ?_
    rintro e w2 ⟨wb, a, p, S2, rfl, hw2⟩
    have HW2 := Lib.hid hw2; clear hw2
    go_wp2_with fail
    refine (CF.out _).mono ?_
    rintro e w3 ⟨rfl, hb3⟩
    have hw3 := HW2.out.below hb3
    obtain ⟨X, hX⟩ : ∃ X, w3.alloc (.cells #[.int .i64 (b : Int), .string T] 71) = X := ⟨_, rfl⟩
    have HF3 : Hid (WdF w1 X wb a p S2 Jb DB w3.heap.size (b : Int) T) := by
      have hb4 : Below w3.heap.size w3 X := by rw [← hX]; exact (Below.refl _ _).alloc (Nat.le_refl _) _
      have hla := hw3.jr.lt
      exact ⟨hw3.below hb4, by rw [← hX]; exact heap_alloc_new .., fun h => by have := hw3.dev.lt _ h; omega, by omega⟩
    have HX := Lib.hid hX
    clear hX hw3 hb3 HW2
    have c1 := HF3.out.wd.c1; have d0 := HF3.out.d0; have d1 := HF3.out.d1
    have CC : Hid (∀ W, Below X.heap.size X W → Calls Try.prog 30 #[.pointer (some ⟨a, 0, none⟩), .slice (some ⟨W.heap.size, 0, none⟩) 1 1] (W.alloc (.cells #[.int .i64 (b : Int), .string T] 71)) fun r w' => r = .returned (.int .i64 0) ∧ ∃ S', WdF w1 w' wb a p S' J1 D1 w3.heap.size (b : Int) T) :=
      fun W hW => (HF3.out.below hW).commit1 HOK.out (by have := HPN.out; omega) b T (by rw [zT]; unfold maxLen; omega) HM1.out
    have HKp : Hid (∀ w' S' J' D', WdF w1 w' wb a p S' J' D' w3.heap.size (b : Int) T → w'.cell? ⟨wb, 1, none⟩ = some (.pointer (some ⟨a, 0, none⟩)) ∧ w'.cell? ⟨w3.heap.size, 0, none⟩ = some (.int .i64 (b : Int)) ∧ w'.cell? ⟨w3.heap.size, 1, none⟩ = some (.string T)) := fun w' S' J' D' h => ⟨h.wd.c1, h.d0, h.d1⟩
    go_wp2_with fail
    rw [HX.out]
    go_region_held3 (fun W => W.cell? ⟨wb, 1, none⟩ = some (.pointer (some ⟨a, 0, none⟩)) ∧ W.cell? ⟨w3.heap.size, 0, none⟩ = some (.int .i64 (b : Int)) ∧ W.cell? ⟨w3.heap.size, 1, none⟩ = some (.string T))
      (first | exact ⟨c1, d0, d1⟩ | exact HKp.out _ _ _ _ (by assumption) | go_keep)
      (first | (go_at_call 30; refine (CC.out X.drew ((Below.refl _ _).drew)).mono ?_; rintro r w4 ⟨rfl, S4, hw4⟩))
    have HF4 := Lib.hid hw4
    clear hw4 CC c1 d0 d1 HF3
    have CR4 : Hid (∀ W, Below w4.heap.size w4 W → Calls Try.prog 37 #[.pointer (some ⟨p, 0, none⟩), .int .i64 (b : Int)] W fun e w' => e = .returned (.tuple #[.string T, .int .i64 0]) ∧ Below W.heap.size W w') := fun W hW => by
      have := read_any (b : Int) (by omega) (HF4.out.wd.dev.below hW)
      rw [HM4.out] at this; exact this
    have HKp4 : Hid (∀ W, Below w4.heap.size w4 W → W.cell? ⟨wb, 0, none⟩ = some (.pointer (some ⟨p, 0, none⟩)) ∧ W.cell? ⟨wb, 1, none⟩ = some (.pointer (some ⟨a, 0, none⟩)) ∧ W.cell? ⟨a, 0, none⟩ = some (.pointer (some ⟨p, 0, none⟩)) ∧ W.cell? ⟨w3.heap.size, 0, none⟩ = some (.int .i64 (b : Int)) ∧ W.cell? ⟨w3.heap.size, 1, none⟩ = some (.string T)) := fun W hW => by
      have h := HF4.out.below hW
      exact ⟨h.wd.c0, h.wd.c1, h.wd.jr.c0, h.d0, h.d1⟩
    obtain ⟨c0, c1, ca, d0, d1⟩ := HKp4.out _ (Below.refl _ _)
    go_wp2_with fail
    go_region_held3 (fun W => Below w4.heap.size w4 W ∧ W.cell? ⟨wb, 0, none⟩ = some (.pointer (some ⟨p, 0, none⟩)) ∧ W.cell? ⟨wb, 1, none⟩ = some (.pointer (some ⟨a, 0, none⟩)) ∧ W.cell? ⟨a, 0, none⟩ = some (.pointer (some ⟨p, 0, none⟩)) ∧ W.cell? ⟨w3.heap.size, 0, none⟩ = some (.int .i64 (b : Int)) ∧ W.cell? ⟨w3.heap.size, 1, none⟩ = some (.string T))
      (first | exact ⟨(Below.refl _ _).drew, c0, c1, ca, d0, d1⟩ | exact ⟨by assumption, HKp4.out _ (by assumption)⟩)
      (first | (go_at_call 37; refine (CR4.out _ ?_).mono ?_; exact (Below.refl _ _).drew; rintro r w5 ⟨rfl, hb5'⟩; have hb5 : Below w4.heap.size w4 w5 := Fr.below_predrew hb5'; clear hb5'))
    all_goals
      rename_i hHeld
      clear hHeld c0 c1 ca d0 d1
      obtain ⟨c0, c1, ca, d0, d1⟩ := HKp4.out _ hb5
      have hz5 := hb5.size
      have HB5 := Lib.hid hb5
      have CR5 : Hid (∀ W, Below w5.heap.size w5 W → Calls Try.prog 37 #[.pointer (some ⟨p, 0, none⟩), .int .i64 (b : Int)] W fun e w' => e = .returned (.tuple #[.string T, .int .i64 0]) ∧ Below w4.heap.size w4 w') := fun W hW =>
        (CR4.out W (HB5.out.trans (hW.mono hz5))).mono fun e w' ⟨he, hb⟩ => ⟨he, (HB5.out.trans (hW.mono hz5)).trans (hb.mono (HB5.out.trans (hW.mono hz5)).size)⟩
      clear hb5
      go_wp2_with fail
      go_region_held3 (fun W => W.cell? ⟨wb, 0, none⟩ = some (.pointer (some ⟨p, 0, none⟩)) ∧ W.cell? ⟨wb, 1, none⟩ = some (.pointer (some ⟨a, 0, none⟩)) ∧ W.cell? ⟨a, 0, none⟩ = some (.pointer (some ⟨p, 0, none⟩)) ∧ W.cell? ⟨w3.heap.size, 0, none⟩ = some (.int .i64 (b : Int)) ∧ W.cell? ⟨w3.heap.size, 1, none⟩ = some (.string T))
        (first | exact ⟨c0, c1, ca, d0, d1⟩ | exact HKp4.out _ (by assumption))
        (first | (go_at_call 37; refine (CR5.out _ ?_).mono ?_; exact (Below.refl _ _).drew; rintro r w6 ⟨rfl, hb6⟩))
    all_goals
      rename_i hHeld
      clear hHeld c0 c1 ca d0 d1
      obtain ⟨c0, c1, ca, d0, d1⟩ := HKp4.out _ hb6
      have HB6 := Lib.hid hb6
      clear hb6
      have CBl : Hid (∀ W, Below w4.heap.size w4 W → Calls Try.prog 38 #[.pointer (some ⟨p, 0, none⟩)] W fun e w' => e = .returned (.int .i64 70) ∧ W = w') := fun W hW => by
        have := blocks_any (HF4.out.wd.dev.below hW)
        rw [m6] at this; exact this
      have CDe : Hid (∀ W, Below w4.heap.size w4 W → Calls Try.prog 39 #[.pointer (some ⟨p, 0, none⟩)] W fun e w' => e = .returned (.bool false) ∧ W = w') := fun W hW => by
        have := dead_any (HF4.out.wd.dev.below hW)
        rw [m5] at this; exact this
      have hTT : (!(T.toList == T.toList)) = false := by simp
      go_wp2_with fail
      refine (CBl.out _ HB6.out).mono ?_
      rintro e w7 ⟨rfl, rfl⟩
      go_wp2_with fail
      refine (CDe.out _ HB6.out).mono ?_
      rintro e w7 ⟨rfl, rfl⟩
      have CDi := Lib.hid (disk_any (HF4.out.wd.dev.below HB6.out))
      go_wp2_with fail
      refine CDi.out.mono ?_
      rintro e w7 ⟨v, rfl, hown, hb7⟩
      have hz6 := HB6.out.size
      have HB7 := Lib.hid (HB6.out.trans (hb7.mono hz6))
      have hO7 : Fr.OwnS w6.heap.size w7 v D1.disk := hown
      obtain ⟨q, c7, hv, hc7, hq1, hq2, hst, _⟩ := hO7.here (by omega)
      rw [m6] at hv
      subst hv
      have HST := Lib.hid hst
      clear hown hb7 hO7 hst CDi c0 c1 ca d0 d1
      obtain ⟨c0, c1, ca, d0, d1⟩ := HKp4.out _ HB7.out
      have hg4 := HF4.out.lt
      go_wp2_with fail
      go_loopw [15, 16] (fun fd i wr => ∃ k : Nat, 2 ≤ k ∧ k ≤ 52 ∧ i = .int .i64 k ∧ (∃ fb : Bool, fd = .bool fb ∧ Hid (fb = true ↔ ∃ j, 2 ≤ j ∧ j < k ∧ D1.disk.getD j ByteArray.empty = T)) ∧ ∃ m, wr = w7.drewN m) (fun _ i _ => 52 - (intOf i).toNat)
      case atStart => exact ⟨2, by omega, by omega, rfl, ⟨false, rfl, ⟨fun h => (by cases h), fun ⟨j, h1, h2, _⟩ => by omega⟩⟩, 0, rfl⟩
      case round =>
        obtain ⟨k, hk2, hk, rfl, ⟨fb, rfl, HF⟩, m, rfl⟩ := hrel
        by_cases hlt : k < 52
        · have hk70 : k < D1.disk.length := by omega
          have hcell := HST.out k hk70
          rw [Nat.zero_add] at hcell
          have hgd : D1.disk.getD k ByteArray.empty = D1.disk[k] := getD_lt _ _ hk70
          have i1 : (k : Int) < 52 := by omega
          have i2 : (k : Int) < 70 := by omega
          have HN1 : Hid (∀ fb2 : Bool, (fb2 = true ↔ (fb = true ∨ D1.disk[k] = T)) → (fb2 = true ↔ ∃ j, 2 ≤ j ∧ j < k + 1 ∧ D1.disk.getD j ByteArray.empty = T)) := by
            intro fb2 h
            rw [h, HF.out]
            constructor
            · rintro (⟨j, h1, h2, h3⟩ | h1)
              · exact ⟨j, h1, by omega, h3⟩
              · exact ⟨k, hk2, by omega, by rw [hgd]; exact h1⟩
            · rintro ⟨j, h1, h2, h3⟩
              by_cases e : j = k
              · subst e; right; rw [← hgd]; exact h3
              · exact .inl ⟨j, h1, by omega, h3⟩
          clear hgd
          generalize D1.disk[k] = dk at *
          cases fb with
          | true =>
            go_wp2_with fail
            go_quiet (fail)
            go_wp2
            go_roundw
            case rel => exact ⟨k + 1, by omega, by omega, by go_num, ⟨true, rfl, HN1.out true (by simp)⟩, _, rfl⟩
            case measure => simp [intOf]; omega
          | false =>
            by_cases he : dk = T
            · subst he
              have hEq : (dk.toList == dk.toList) = true := by simp
              go_wp2_with fail
              go_quiet (fail)
              go_wp2
              go_roundw
              case rel => exact ⟨k + 1, by omega, by omega, by go_num, ⟨true, rfl, HN1.out true (by simp)⟩, _, rfl⟩
              case measure => simp [intOf]; omega
            · have hEq : (dk.toList == T.toList) = false := Fr.str_diff he
              go_wp2_with fail
              go_quiet (fail)
              go_wp2
              go_roundw
              case rel => exact ⟨k + 1, by omega, by omega, by go_num, ⟨false, rfl, HN1.out false (by simp [he])⟩, _, rfl⟩
              case measure => simp [intOf]; omega
        · have hk52 : k = 52 := by omega
          subst hk52
          have hfb : fb = true := HF.out.2 (by obtain ⟨i, h1, h2, h3⟩ := HM7.out; exact ⟨i, h1, by omega, h3⟩)
          subst hfb
          have HB8 : Hid (Below w4.heap.size w4 (w7.drewN m)) := Fr.below_drewN HB7.out m
          have HF8 := Lib.hid (HF4.out.below HB8.out)
          generalize w7.drewN m = w8 at *
          clear HB7 HB6 HST CR4 CR5 CBl CDe HB5 HKp4 c0 c1 ca d0 d1
          have c1 := HF8.out.wd.c1; have ca := HF8.out.wd.jr.c0
          have CFu : Hid (Calls Try.prog 27 #[.pointer (some ⟨p, 0, none⟩), .int .i64 0] w8 fun e w' => e = .returned (.tuple #[]) ∧ ∃ S', WdF w1 w' wb a p S' J1 (D1.setFuse 0) w3.heap.size (b : Int) T) :=
            (fuse_any 0 (by omega) HF8.out.wd.dev).mono fun e w' ⟨he, h1, h2⟩ => ⟨he, HF8.out.leaves (.mk h1 h2)⟩
          go_wp2_with fail
          refine CFu.out.mono ?_
          rintro e w9 ⟨rfl, S9, hw9⟩
          have HF9 := Lib.hid hw9
          clear hw9 CFu HF8 HB8 c1 ca
          have c1 := HF9.out.wd.c1; have ca := HF9.out.wd.jr.c0
          have CFl : Hid (Calls Try.prog 40 #[.pointer (some ⟨p, 0, none⟩)] w9 fun e w' => e = .returned (.int .i64 4) ∧ ∃ S', WdF w1 w' wb a p S' J1 D3 w3.heap.size (b : Int) T) := by
            have h := flush_any (show (D1.setFuse 0).pend.length ≤ 1000000 from by show D1.pend.length ≤ _; omega) HF9.out.wd.dev
            rw [HM8.out] at h
            exact h.mono fun e w' ⟨he, h1, h2⟩ => ⟨he, HF9.out.leaves (.mk h1 h2)⟩
          go_wp2_with fail
          refine CFl.out.mono ?_
          rintro e w10 ⟨rfl, S10, hw10⟩
          have HF10 := Lib.hid hw10
          clear hw10 CFl HF9 c1 ca
          have c1 := HF10.out.wd.c1; have ca := HF10.out.wd.jr.c0
          have CCr : Hid (Calls Try.prog 31 #[.pointer (some ⟨p, 0, none⟩), .slice none 0 0, .int .i64 (-1), .int .i64 0] w10 fun e w' => e = .returned (.tuple #[]) ∧ ∃ S', WdF w1 w' wb a p S' J1 (D3.crash [] (-1) 0) w3.heap.size (b : Int) T) :=
            (crash_any [] (-1) 0 (.slice none 0 0) (by omega) (by simp) HF10.out.wd.dev ⟨none, 0, rfl, .inl rfl⟩).mono fun e w' ⟨he, h1, h2⟩ => ⟨he, HF10.out.leaves (.mk h1 h2)⟩
          go_wp2_with fail
          refine CCr.out.mono ?_
          rintro e w11 ⟨rfl, S11, hw11⟩
          have HF11 := Lib.hid hw11
          clear hw11 CCr HF10 c1 ca
          have c0 := HF11.out.wd.c0
          have COp := Lib.hid (open_any HF11.out.wd.dev (by simp [DevS.crash]))
          go_wp2_with fail
          refine COp.out.mono ?_
          rintro e w12 hop
          unfold Opened at hop
          rw [HM10.out] at hop
          obtain ⟨S12, hS12, hs12, ho12, a2, he, ha2, hna2, hj12⟩ := hop
          subst he
          have hs12' : Stands S12 w12 p D5 := hs12
          have d0 : w12.cell? ⟨w3.heap.size, 0, none⟩ = some (.int .i64 (b : Int)) := (ho12.cell (p := ⟨w3.heap.size, 0, none⟩) HF11.out.lt HF11.out.gs).trans HF11.out.d0
          have d1 : w12.cell? ⟨w3.heap.size, 1, none⟩ = some (.string T) := (ho12.cell (p := ⟨w3.heap.size, 1, none⟩) HF11.out.lt HF11.out.gs).trans HF11.out.d1
          have ca := hj12.c0
          have hg12 : w3.heap.size < w12.heap.size := Nat.lt_of_lt_of_le HF11.out.lt ho12.size
          have ha12 := hj12.lt
          have HB12 : Hid (Below w.heap.size w w12) := by
            have h1 := HB1.out.trans (HF11.out.wd.bel.mono HB1.out.size)
            exact h1.trans (ho12.below h1.size (fun k _ hk => Nat.le_trans HB1.out.size (HF11.out.wd.own k hk)))
          have CR12 : Hid (∀ W, Below w12.heap.size w12 W → Calls Try.prog 37 #[.pointer (some ⟨p, 0, none⟩), .int .i64 (b : Int)] W fun e w' => e = .returned (.tuple #[.string T, .int .i64 0]) ∧ Below W.heap.size W w') := fun W hW => by
            have := read_any (b : Int) (by omega) (hs12'.below hW)
            rw [HM12.out] at this; exact this
          clear hS12 hs12 hs12' ho12 hna2 hj12 COp HF11
          have hTE : (T.toList == T.toList) = true := by simp
          have HKf : Hid (∀ W, Below w12.heap.size w12 W → W.cell? ⟨a2, 0, none⟩ = some (.pointer (some ⟨p, 0, none⟩)) ∧ W.cell? ⟨w3.heap.size, 0, none⟩ = some (.int .i64 (b : Int)) ∧ W.cell? ⟨w3.heap.size, 1, none⟩ = some (.string T)) := fun W hW =>
            ⟨(hW.cell (p := ⟨a2, 0, none⟩) ha12).trans ca, (hW.cell (p := ⟨w3.heap.size, 0, none⟩) hg12).trans d0, (hW.cell (p := ⟨w3.heap.size, 1, none⟩) hg12).trans d1⟩
          go_wp2_with fail
          go_region_held3 (fun W => W.cell? ⟨a2, 0, none⟩ = some (.pointer (some ⟨p, 0, none⟩)) ∧ W.cell? ⟨w3.heap.size, 0, none⟩ = some (.int .i64 (b : Int)) ∧ W.cell? ⟨w3.heap.size, 1, none⟩ = some (.string T))
            (first | exact ⟨ca, d0, d1⟩ | exact HKf.out _ (by assumption))
            (first | (go_at_call 37; refine (CR12.out _ ?_).mono ?_; exact (Below.refl _ _).drew; rintro r w13 ⟨rfl, hb13'⟩; have hb13 : Below w12.heap.size w12 w13 := Fr.below_predrew hb13'; clear hb13'))
          all_goals
            rename_i hHeld
            obtain ⟨_, _, d1'⟩ := hHeld
            have HB13 : Hid (Below w.heap.size w w13) := HB12.out.trans (hb13.mono HB12.out.size)
            clear hb13 ca d0 d1
            go_wp2
            go_ret
            exact ⟨rfl, HB13.out⟩
  · have h6' : (600 : Int) < (s.size : Int) := by omega
    go_enter Try.func8, Try.ntmps8
    go_wp2_with fail
    refine CS.out.mono ?_
    rintro e w1 ⟨rfl, hb1'⟩
    have HB1 := Lib.hid hb1'; clear hb1'
    go_wp2
    go_ret
    exact ⟨rfl, HB1.out⟩
end Go.Proofs.Ytodfcbpimglhdaa

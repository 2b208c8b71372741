/- Two caches side by side, and blocks that stand by. -/
import Derived.Test.YtgfgmpgeddienaaZCSteps
import Derived.Test.YtgfgmpgeddienaaZCDirty

namespace Go.Proofs.Ytgfgmpgeddienaa
open Go.RowKit

section
variable {S : Nat → Prop} {w w' : World} {p : Nat} {src : Value} {C : CS} {N : Nat}
theorem does_cch (h : Cch S w p src0 C) (a : Act6) (ha : a.Ok) (hb : Bd N C) (hN : N < 1000000) :
    Calls Try.prog 13 #[.pointer (some ⟨p, 0, none⟩), .agg #[.int .i64 a.op, .int .i64 a.at_, .int .u8 a.b, .bool a.bad]] w fun e w' => e = .returned (.tuple #[.string (C.does a).1.1, .int .i64 (C.does a).1.2]) ∧ CLeaves S w w' p src0 (C.does a).2 := by
  have hq := a.q_lt
  have hp : ∀ x ∈ C.L, x.pins < 1000000 := fun x hx => by have := hb.pn x hx; omega
  have hm : C.misses < 1000000 := by have := hb.ms; omega
  unfold CS.does
  by_cases q4 : a.q = 4 ∨ a.q = 5
  · rw [if_pos q4]; exact does_put a ha q4 h
  · rw [if_neg q4]
    by_cases q6 : a.q = 6
    · rw [if_pos q6]; exact does_pin a ha q6 h hp
    · rw [if_neg q6]
      by_cases q7 : a.q = 7
      · rw [if_pos q7]; exact does_unpin a ha q7 h
      · rw [if_neg q7]
        by_cases q8 : a.q = 8
        · rw [if_pos q8]; exact does_clean a ha q8 h
        · rw [if_neg q8]
          by_cases q9 : a.q = 9
          · rw [if_pos q9]; exact does_drop a ha q9 h
          · rw [if_neg q9]
            refine does_get a ha (by omega) _ _ (fun w' => CLeaves S w w' p src0 (C.get a.i (told a.i) (toldE a.i)).2) fun W hW => ?_
            exact (get_any a.i ha.i (h.below hW) hm).mono fun e w' ⟨he, hl⟩ => ⟨he, hl.after (Only.of_below _ hW (Nat.le_refl _))⟩
end

/-! What Drop and Clean leave, in plain lists. -/
section
variable {C : CS}
theorem drop_dirty (C : CS) : C.drop.dirty = [] := by
  have : dls C.drop.L = [] := by
    unfold dls CS.drop
    simp only [List.filter_filter]
    rw [show (fun a : Kp => a.dirty && !a.dirty) = fun _ => false from funext fun a => by cases a.dirty <;> rfl]
    simp
  unfold CS.dirty
  rw [this]; rfl
theorem clean_dirty (C : CS) : C.clean.dirty = [] := by
  have : dls C.clean.L = [] := by
    unfold dls CS.clean
    rw [List.map_eq_nil_iff, List.filter_eq_nil_iff]
    intro x hx
    obtain ⟨y, _, rfl⟩ := List.mem_map.1 hx
    simp
  unfold CS.dirty
  rw [this]; rfl
theorem dirty_mem {x : Wr} (h : x ∈ C.dirty) : ∃ y ∈ C.L, y.dirty = true ∧ x = (y.key, y.data) := dls_mem (C.dirty_perm.subset h)
theorem dirty_gone (ok : C.Ok) {x : Wr} (h : x ∈ C.dirty) : x.1 ∉ keys C.drop.L := by
  obtain ⟨y, hy, hd, rfl⟩ := dirty_mem h
  intro hm
  obtain ⟨z, hz, he⟩ := List.mem_map.1 hm
  obtain ⟨hz1, hz2⟩ := List.mem_filter.1 hz
  have := key_is ok.nodup hz1 hy he
  subst this
  rw [hd] at hz2; cases hz2
theorem dirty_there {x : Wr} (h : x ∈ C.dirty) : x.1 ∈ keys C.clean.L := by
  obtain ⟨y, hy, hd, rfl⟩ := dirty_mem h
  exact List.mem_map.2 ⟨_, List.mem_map.2 ⟨y, hy, rfl⟩, rfl⟩
/-- All of M is kept, with these data. -/
def Tells (M : List Wr) (C : CS) : Prop := ∀ x ∈ M, ∃ y ∈ C.L, y.key = x.1 ∧ y.data = x.2
theorem tells_clean (C : CS) : Tells C.dirty C.clean := by
  intro x hx
  obtain ⟨y, hy, hd, rfl⟩ := dirty_mem hx
  exact ⟨_, List.mem_map.2 ⟨y, hy, rfl⟩, rfl, rfl⟩
theorem Tells.get {M : List Wr} (h : Tells M C) (ok : C.Ok) {x : Wr} (hx : x ∈ M) (t : ByteArray) (e : Int) : ∃ k y, fx C.L x.1 = some (k, y) ∧ C.get x.1 t e = ((x.2, 0), { C with L := y :: C.L.eraseIdx k }) ∧ Tells M { C with L := y :: C.L.eraseIdx k } := by
  obtain ⟨y, hy, h1, h2⟩ := h x hx
  obtain ⟨k, hk, rfl⟩ := List.getElem_of_mem hy
  have hf := fx_of ok.nodup hk
  rw [h1] at hf
  refine ⟨k, C.L[k], hf, ?_, fun z hz => ?_⟩
  · unfold CS.get; rw [hf]; simp only [h2]
  · obtain ⟨u, hu, h3⟩ := h z hz
    exact ⟨u, (perm_front hk).symm.subset hu, h3⟩
end
/-- Caches at p1 and p2, apart; the blocks of T are neither's. -/
structure Two (T : Nat → Prop) (w0 w : World) (p1 p2 : Nat) (C1 C2 : CS) : Prop where
  ex : ∃ S1 S2 : Nat → Prop, (∀ k, S1 k → w0.heap.size ≤ k) ∧ (∀ k, S2 k → w0.heap.size ≤ k) ∧ (∀ k, S1 k → ¬ S2 k) ∧ (∀ k, T k → ¬ S1 k ∧ ¬ S2 k) ∧ Cch S1 w p1 src0 C1 ∧ Cch S2 w p2 src0 C2
  lt : ∀ k, T k → k < w.heap.size
  bel : Below w0.heap.size w0 w
section
variable {T T' : Nat → Prop} {w0 w w' : World} {p1 p2 : Nat} {C1 C2 C' : CS}
theorem Two.swap (h : Two T w0 w p1 p2 C1 C2) : Two T w0 w p2 p1 C2 C1 := by
  obtain ⟨S1, S2, h1, h2, h3, h4, h5, h6⟩ := h.ex
  exact ⟨⟨S2, S1, h2, h1, fun k a b => h3 k b a, fun k hk => ⟨(h4 k hk).2, (h4 k hk).1⟩, h6, h5⟩, h.lt, h.bel⟩
theorem Two.below (h : Two T w0 w p1 p2 C1 C2) (hb : Below w.heap.size w w') : Two T w0 w' p1 p2 C1 C2 := by
  obtain ⟨S1, S2, h1, h2, h3, h4, h5, h6⟩ := h.ex
  exact ⟨⟨S1, S2, h1, h2, h3, h4, h5.below hb, h6.below hb⟩, fun k hk => Nat.lt_of_lt_of_le (h.lt k hk) hb.size, h.bel.trans (hb.mono h.bel.size)⟩
/-- Blocks that are new stand by from here on. -/
theorem Two.keep (h : Two T w0 w p1 p2 C1 C2) (hb : Below w.heap.size w w') (hT : ∀ k, T' k → w.heap.size ≤ k ∧ k < w'.heap.size) : Two T' w0 w' p1 p2 C1 C2 := by
  obtain ⟨S1, S2, h1, h2, h3, h4, h5, h6⟩ := h.ex
  exact ⟨⟨S1, S2, h1, h2, h3, fun k hk => ⟨fun hs => by have := h5.lt k hs; have := (hT k hk).1; omega, fun hs => by have := h6.lt k hs; have := (hT k hk).1; omega⟩, h5.below hb, h6.below hb⟩, fun k hk => (hT k hk).2, h.bel.trans (hb.mono h.bel.size)⟩
theorem Two.left (h : Two T w0 w p1 p2 C1 C2) {f : FuncId} {args : Array Value} {v : Value} (hc : ∀ S, Cch S w p1 src0 C1 → Calls Try.prog f args w fun e w' => e = .returned v ∧ CLeaves S w w' p1 src0 C') :
    Calls Try.prog f args w fun e w' => e = .returned v ∧ Hid (Two T w0 w' p1 p2 C' C2) ∧ Hid (w.heap.size ≤ w'.heap.size ∧ ∀ k, T k → w'.heap[k]? = w.heap[k]?) := by
  obtain ⟨S1, S2, h1, h2, h3, h4, h5, h6⟩ := h.ex
  refine (hc S1 h5).mono fun e w' ⟨he, S', i1, i2, i3⟩ => ⟨he, ⟨⟨S', S2, fun k hk => ?_, h2, fun k hk hs => ?_, fun k hk => ⟨fun hs => ?_, (h4 k hk).2⟩, i2, h6.kept i3 (fun k hk hs => h3 k hs hk)⟩, fun k hk => Nat.lt_of_lt_of_le (h.lt k hk) i3.size, h.bel.trans (i3.below h.bel.size (fun k _ hk => h1 k hk))⟩, i3.size, fun k hk => i3.block k (h.lt k hk) (h4 k hk).1⟩
  · rcases i1 k hk with e | e
    · exact h1 k e
    · exact Nat.le_trans h.bel.size e
  · rcases i1 k hk with e | e
    · exact h3 k e hs
    · have := h6.lt k hs; omega
  · rcases i1 k hs with e | e
    · exact (h4 k hk).1 e
    · have := h.lt k hk; omega
theorem Two.right (h : Two T w0 w p1 p2 C1 C2) {f : FuncId} {args : Array Value} {v : Value} (hc : ∀ S, Cch S w p2 src0 C2 → Calls Try.prog f args w fun e w' => e = .returned v ∧ CLeaves S w w' p2 src0 C') :
    Calls Try.prog f args w fun e w' => e = .returned v ∧ Hid (Two T w0 w' p1 p2 C1 C') ∧ Hid (w.heap.size ≤ w'.heap.size ∧ ∀ k, T k → w'.heap[k]? = w.heap[k]?) :=
  (h.swap.left hc).mono fun e w' ⟨he, ht, hk⟩ => ⟨he, ht.out.swap, hk⟩
theorem SlW.stand {v : Value} {L : List Wr} (h : SlW w v L) (hT : L ≠ [] → ∀ k, v.ownBlock = some k → T k) (hs : w.heap.size ≤ w'.heap.size) (hk : ∀ k, T k → w'.heap[k]? = w.heap[k]?) : SlW w' v L := by
  obtain ⟨ao, c, rfl, h⟩ := h
  refine ⟨ao, c, rfl, ?_⟩
  by_cases hL : L = []
  · exact .inl hL
  · rcases h with h | ⟨b, e, hlt, hc⟩
    · exact .inl h
    · subst e
      have hb := hk b (hT hL b rfl)
      exact .inr ⟨b, rfl, Nat.lt_of_lt_of_le hlt hs, fun j hj => ⟨(World.cell?_of_block (a := ⟨b, j * 2, none⟩) hb).trans (hc j hj).1, (World.cell?_of_block (a := ⟨b, j * 2 + 1, none⟩) hb).trans (hc j hj).2⟩⟩
theorem SlW.block {v : Value} {L : List Wr} {k : Nat} (h : SlW w v L) (hL : L ≠ []) (e : v.ownBlock = some k) : k < w.heap.size := by
  obtain ⟨ao, c, rfl, h⟩ := h
  rcases h with h | ⟨b, e', hlt, _⟩
  · exact absurd h hL
  · subst e'; cases e; exact hlt
theorem Two.ok1 (h : Two T w0 w p1 p2 C1 C2) : C1.Ok := by obtain ⟨S1, S2, h1, h2, h3, h4, h5, h6⟩ := h.ex; exact h5.ok
theorem Two.ok2 (h : Two T w0 w p1 p2 C1 C2) : C2.Ok := by obtain ⟨S1, S2, h1, h2, h3, h4, h5, h6⟩ := h.ex; exact h6.ok
theorem Two.dirtyL (h : Two T w0 w p1 p2 C1 C2) : Calls Try.prog 17 #[.pointer (some ⟨p1, 0, none⟩)] w fun e w' => ∃ v, e = .returned v ∧ Hid (SlW w' v C1.dirty) ∧ Hid (Below w.heap.size w w') ∧ Hid (∀ k, v.ownBlock = some k → w.heap.size ≤ k) := by
  obtain ⟨S1, S2, h1, h2, h3, h4, h5, h6⟩ := h.ex
  exact dirty_any h5
theorem Two.blocksL (h : Two T w0 w p1 p2 C1 C2) : Calls Try.prog 16 #[.pointer (some ⟨p1, 0, none⟩)] w fun e w' => ∃ v, e = .returned v ∧ Hid (SlI w' v (keys C1.L)) ∧ Hid (Below w.heap.size w w') := by
  obtain ⟨S1, S2, h1, h2, h3, h4, h5, h6⟩ := h.ex
  exact (blocks_any h5).mono fun e w' ⟨v, he, hr, hb⟩ => ⟨v, he, SlI.of_own hr, hb⟩
theorem Two.gets {M : List Wr} (h : Two T w0 w p1 p2 C1 C2) (hm : Tells M C2) (hms : C2.misses < 1000000) {x : Wr} (hx : x ∈ M) (hi : -9223372036854775808 ≤ x.1 ∧ x.1 ≤ 9223372036854775807) :
    Calls Try.prog 22 #[.pointer (some ⟨p2, 0, none⟩), .int .i64 x.1] w fun e w' => e = .returned (.tuple #[.string x.2, .int .i64 0]) ∧ Hid (∃ D, Two T w0 w' p1 p2 C1 D ∧ Tells M D ∧ D.misses < 1000000) ∧ Hid (w.heap.size ≤ w'.heap.size ∧ ∀ k, T k → w'.heap[k]? = w.heap[k]?) := by
  obtain ⟨k, y, hf, hg, ht⟩ := hm.get h.ok2 hx (told x.1) (toldE x.1)
  refine (h.right (C' := { C2 with L := y :: C2.L.eraseIdx k }) (v := .tuple #[.string x.2, .int .i64 0]) fun S hc => ?_).mono fun e w' ⟨he, h2, h3⟩ => ⟨he, ⟨_, h2.out, ht, hms⟩, h3.out⟩
  have := get_any x.1 hi hc hms
  rw [hg] at this
  exact this
theorem new_two_homes (m : Nat) (w0 w : World) (h : Home w0 w p1 C1) (h1 : 1 ≤ m) (h2 : m ≤ 1024) :
    Calls Try.prog 10 #[src0, .int .i64 (m : Int)] w fun e w' => ∃ p2, e = .returned (.tuple #[.pointer (some ⟨p2, 0, none⟩), .int .i64 0]) ∧ Hid (Two (fun _ => False) w0 w' p1 p2 C1 (CS.new m)) := by
  obtain ⟨S, i1, i2, i3⟩ := h
  refine (new_yes _ _ m w h1 h2).mono fun e w' ⟨p, he, S2, hS, hc, hb'⟩ => ⟨p, he, ⟨S, S2, i1, fun k hk => Nat.le_trans i3.size (hS k hk), fun k a b => by have := i2.lt k a; have := hS k b; omega, fun k hk => hk.elim, i2.below hb', hc⟩, fun k hk => hk.elim, i3.trans (hb'.mono i3.size)⟩
end

end Go.Proofs.Ytgfgmpgeddienaa
/- The walk of CacheDrops. -/
namespace Go.Proofs.Ytgfgmpgeddienaa
open Go.RowKit

theorem new_one2 (q : Nat) (w0 w : World) {p1 : Nat} {C1 : CS} (h : Home w0 w p1 C1) (hq : q < 8) :
    Calls Try.prog 10 #[src0, .int .i64 (1 + (q : Int))] w fun e w' => ∃ p2, e = .returned (.tuple #[.pointer (some ⟨p2, 0, none⟩), .int .i64 0]) ∧ Hid (Two (fun _ => False) w0 w' p1 p2 C1 (CS.new (1 + q))) := by
  have := new_two_homes (1 + q) w0 w h (by omega) (by omega)
  rwa [Int.natCast_add] at this
theorem Acts6.held {w0 W : World} {L : List Act6} {g off n cap : Nat} (h : Acts6 w0 (.slice (some ⟨g, off, none⟩) n cap) L) (hW : Below w0.heap.size w0 W) (j : Nat) (hj : j < L.length) : HeldG g (off + j * 4) L[j] W := by
  obtain ⟨g', off', cap'', hv'', i0, i1, i2, i3⟩ := h.cell hW j hj
  obtain ⟨⟨rfl, rfl⟩, _, _⟩ : (g = g' ∧ off = off') ∧ n = L.length ∧ cap = cap'' := by simpa using hv''
  exact ⟨i0, i1, i2, i3⟩

theorem SlW.at {W : World} {ao : Option Addr} {n c : Nat} {L : List Wr} (h : SlW W (.slice ao n c) L) {i : Nat} (hi : i < L.length) : ∃ g, ao = some ⟨g, 0, none⟩ ∧ g < W.heap.size ∧ W.cell? ⟨g, i * 2, none⟩ = some (.int .i64 L[i].1) ∧ W.cell? ⟨g, i * 2 + 1, none⟩ = some (.string L[i].2) := by
  obtain ⟨ao', c', hv, h⟩ := h
  obtain ⟨rfl, _, rfl⟩ : ao = ao' ∧ n = L.length ∧ c = c' := by simpa using hv
  rcases h with h | ⟨g, e, hlt, hc⟩
  · subst h; simp at hi
  · exact ⟨g, e, hlt, hc i hi⟩
/-- What is kept of both caches, and whether a number is among it: as functions of where the cache lies. -/
theorem two_has {T : Nat → Prop} {w0 w8 : World} {p1 p2 : Nat} {C1 C2 : CS} {x : Int} (h : Two T w0 w8 p1 p2 C1 C2) (l1 : (keys C1.L).length ≤ 5000) (l2 : (keys C2.L).length ≤ 5000) (h1 : x ∉ keys C1.L) (h2 : x ∈ keys C2.L) :
    ∃ (Q : Nat → Prop) (hf : Nat → Bool) (kf : Nat → List Int), Q p1 ∧ Q p2 ∧ hf p1 = false ∧ hf p2 = true ∧
      Hid (∀ q, Q q → ∀ W, Below w8.heap.size w8 W → Calls Try.prog 16 #[.pointer (some ⟨q, 0, none⟩)] W fun e w' => ∃ v, e = .returned v ∧ Hid (SlI w' v (kf q)) ∧ Hid (Below w8.heap.size w8 w')) ∧
      Hid (∀ q, Q q → ∀ W v, SlI W v (kf q) → Calls Try.prog 24 #[v, .int .i64 x] W fun e w' => e = .returned (.bool (hf q)) ∧ W = w') := by
  have hne : p2 ≠ p1 := by
    obtain ⟨S1, S2, _, _, h3, _, ⟨_, _, h5⟩, ⟨_, _, h6⟩⟩ := h.ex
    exact fun e => h3 p1 h5.sp (e ▸ h6.sp)
  refine ⟨fun q => q = p1 ∨ q = p2, fun q => decide (x ∈ (if q = p1 then keys C1.L else keys C2.L)), fun q => if q = p1 then keys C1.L else keys C2.L, .inl rfl, .inr rfl, ?_, ?_, ?_, ?_⟩
  · simp only [if_pos]; exact decide_eq_false h1
  · simp only [if_neg hne]; exact decide_eq_true h2
  · intro q hq W hW
    rcases hq with rfl | rfl
    · refine (h.below hW).blocksL.mono fun e w' ⟨v, he, hs, hb⟩ => ⟨v, he, ?_, hW.trans (hb.out.mono hW.size)⟩
      show SlI w' v (if q = q then keys C1.L else keys C2.L)
      rw [if_pos rfl]; exact hs.out
    · refine (h.below hW).swap.blocksL.mono fun e w' ⟨v, he, hs, hb⟩ => ⟨v, he, ?_, hW.trans (hb.out.mono hW.size)⟩
      show SlI w' v (if q = p1 then keys C1.L else keys C2.L)
      rw [if_neg hne]; exact hs.out
  · intro q hq W v hv
    refine has_any _ x v W hv ?_
    show (if q = p1 then keys C1.L else keys C2.L).length ≤ 5000
    split
    · exact l1
    · exact l2

set_option maxRecDepth 100000 in
set_option maxHeartbeats 4000000 in
theorem drops_any (a0 : Int) (v1 : Value) (L : List Act6) (w : World) (h0 : -9223372036854775808 ≤ a0 ∧ a0 ≤ 9223372036854775807) (hA : Acts6 w v1 L) :
    Calls Try.prog 8 #[.int .i64 a0, v1] w fun e w' => e = .returned (.bool true) ∧ Below w.heap.size w w' := by
  have HS := Lib.hid (shown_any w)
  obtain ⟨ao, cap, hv⟩ : ∃ ao cap, v1 = .slice ao L.length cap := by obtain ⟨_, _, ao, cap, hv, _⟩ := hA; exact ⟨ao, cap, hv⟩
  have hlen := hA.2.1
  have HA := Lib.hid hA
  have HV := Lib.hid hv
  obtain ⟨n, hn⟩ : ∃ n, L.length = n := ⟨_, rfl⟩
  have HN := Lib.hid hn
  rw [hn] at hlen hv
  subst hv
  clear hn hA
  by_cases hl : 200 < n
  · have hlz : (200 : Int) < (n : Int) := by omega
    clear hl h0
    go_enter Try.func8, Try.ntmps8
    go_wp2_with fail
    refine HS.out.mono ?_
    rintro e w1 ⟨rfl, hb⟩
    go_wp2
    go_ret
    exact ⟨rfl, hb.out⟩
  · have hlz : ¬ (200 : Int) < (n : Int) := by omega
    obtain ⟨q, hq, hqe⟩ := many_nat 0 a0
    have HP0 : Hid (∀ W, Calls Try.prog 12 #[.int .i64 a0, .int .i64 8] W fun e w' => e = .returned (.int .i64 (q : Int)) ∧ W = w') := fun W => by rw [← hqe]; exact pick_any a0 8 W h0 (by omega)
    have HNEW : Hid (∀ W, Below w.heap.size w W → Calls Try.prog 10 #[src0, .int .i64 (1 + (q : Int))] W fun e w' => ∃ p, e = .returned (.tuple #[.pointer (some ⟨p, 0, none⟩), .int .i64 0]) ∧ Hid (Home w w' p (CS.new (1 + q)))) := fun W hW => new_one q w W hW hq
    have HQ := Lib.hid hq
    clear hqe h0 hl
    go_enter Try.func8, Try.ntmps8
    go_wp2_with fail
    refine HS.out.mono ?_
    rintro e w1 ⟨rfl, hb⟩
    go_wp2_with fail
    refine (HP0.out _).mono ?_
    rintro e w1' ⟨rfl, rfl⟩
    have G := Lib.hid (HNEW.out w1 hb.out)
    clear HNEW HP0 hb
    go_wp2_with fail
    refine G.out.mono ?_
    rintro e w2 ⟨p1, rfl, c0⟩
    clear G
    have G := Lib.hid (new_one2 q w w2 c0.out HQ.out)
    clear c0
    go_wp2_with fail
    refine G.out.mono ?_
    rintro e w3 ⟨p2, rfl, c0⟩
    clear G
    have HST := Lib.hid (Bd.new (1 + q))
    generalize CS.new (1 + q) = C0 at *
    go_wp2_with fail
    go_loopw [11] (fun iv wr => ∃ j : Nat, j ≤ n ∧ iv = .int .i64 (j : Int) ∧ Hid (∃ C, Two (fun _ => False) w wr p1 p2 C C ∧ Bd j C)) (fun iv _ => n - (intOf iv).toNat)
    case atStart => exact ⟨0, Nat.zero_le _, rfl, C0, c0.out, HST.out⟩
    case round =>
      obtain ⟨j, hj, rfl, HI⟩ := hrel
      obtain ⟨C, hC⟩ := HI.out
      have HC := Lib.hid hC
      clear hC HI c0 HST
      by_cases hlt : j < n
      · have hkz : (j : Int) < (n : Int) := by omega
        have hkL : j < L.length := by rw [HN.out]; exact hlt
        obtain ⟨g, off, cap', hv', d0, d1, d2, d3⟩ := HA.out.cell HC.out.1.bel j hkL
        obtain ⟨rfl, hnl, rfl⟩ : ao = some ⟨g, off, none⟩ ∧ n = L.length ∧ cap = cap' := by simpa using hv'
        have HAO := Lib.hid (HA.out.1 L[j] (List.getElem_mem hkL))
        have HD : Hid (∀ W, Below w.heap.size w W → HeldG g (off + j * 4) L[j] W) := fun W hW => HA.out.held hW j hkL
        clear hv' hnl
        generalize L[j] = A at *
        have G := Lib.hid (HC.out.1.left fun S hc => does_cch hc A HAO.out HC.out.2 (by omega))
        have HBD := Lib.hid HC.out.2
        go_wp2_with fail
        refine G.out.mono ?_
        rintro e w4 ⟨rfl, hh, _⟩
        clear G d0 d1 d2 d3
        obtain ⟨d0, d1, d2, d3⟩ := HD.out w4 hh.out.bel
        have G := Lib.hid (hh.out.right fun S hc => does_cch hc A HAO.out HBD.out (by omega))
        have HBD2 := Lib.hid (HBD.out.does A)
        generalize C.does A = R at *
        go_wp2_with fail
        refine G.out.mono ?_
        rintro e w5 ⟨rfl, hh2, _⟩
        go_wp2
        go_roundw
        case rel => exact ⟨j + 1, by omega, by go_num, R.2, hh2.out, HBD2.out⟩
        case measure => simp [intOf]; omega
      · have hkz : ¬ (j : Int) < (n : Int) := by omega
        have HTW := Lib.hid HC.out.1
        have HOK := Lib.hid HC.out.1.ok1
        have HMS : Hid (C.clean.misses < 1000000) := by show C.misses < _; have := HC.out.2.ms; omega
        have HDI := Lib.hid (drop_dirty C)
        have HCI := Lib.hid (clean_dirty C)
        have HG1 : Hid (∀ x ∈ C.dirty, x.1 ∉ keys C.drop.L) := fun x hx => dirty_gone HOK.out hx
        have HG2 : Hid (∀ x ∈ C.dirty, x.1 ∈ keys C.clean.L) := fun x hx => dirty_there hx
        have HTL := Lib.hid (tells_clean C)
        have HRG : Hid (∀ x ∈ C.dirty, -9223372036854775808 ≤ x.1 ∧ x.1 ≤ 9223372036854775807) := fun x hx => by
          obtain ⟨y, hy, _, rfl⟩ := dirty_mem hx
          exact HOK.out.wf y hy
        have HLD : Hid (C.dirty.length ≤ 5000) := by
          show _ ≤ _
          have h1 := C.dirty_perm.length_eq
          have h2 := dls_len C.L
          have := HOK.out.len; have := HOK.out.m1; omega
        have HL1 : Hid ((keys C.drop.L).length ≤ 5000) := by show _ ≤ _; rw [keys_len]; have := HOK.out.drop.len; have := HOK.out.drop.m1; omega
        have HL2 : Hid ((keys C.clean.L).length ≤ 5000) := by show _ ≤ _; rw [keys_len]; have := HOK.out.clean.len; have := HOK.out.clean.m1; omega
        have G := Lib.hid HC.out.1.dirtyL
        clear HC HA
        go_wp2_with fail
        refine G.out.mono ?_
        rintro e w4 ⟨v, rfl, hv, hb4, hge⟩
        have HT4 : Hid (Two (fun k => v.ownBlock = some k ∧ C.dirty ≠ []) w w4 p1 p2 C C) := HTW.out.keep hb4.out (fun k hk => ⟨hge.out k hk.1, hv.out.block hk.2 hk.1⟩)
        have HT : Hid (C.dirty ≠ [] → ∀ k, v.ownBlock = some k → (fun k => v.ownBlock = some k ∧ C.dirty ≠ []) k) := fun h k e => ⟨e, h⟩
        clear G hb4 hge HTW
        generalize (fun k => v.ownBlock = some k ∧ C.dirty ≠ []) = T at *
        generalize C.dirty = DD at *
        obtain ⟨aod, cd, hvd⟩ : ∃ ao c, v = .slice ao DD.length c := by obtain ⟨ao, c, h, _⟩ := hv.out; exact ⟨ao, c, h⟩
        obtain ⟨m, hm⟩ : ∃ m, DD.length = m := ⟨_, rfl⟩
        have HM := Lib.hid hm
        have HMl : m ≤ 5000 := by rw [← hm]; exact HLD.out
        rw [hm] at hvd
        subst hvd
        clear hm
        have G := Lib.hid (HT4.out.left fun S hc => drop_any hc)
        clear HT4
        go_wp2_with fail
        refine G.out.mono ?_
        rintro e w5 ⟨rfl, ht5, hk5⟩
        have hv5 := Lib.hid (hv.out.stand HT.out hk5.out.1 hk5.out.2)
        have G := Lib.hid (ht5.out.right fun S hc => clean_any hc)
        clear hv ht5 hk5
        go_wp2_with fail
        refine G.out.mono ?_
        rintro e w6 ⟨rfl, ht6, hk6⟩
        have hv6 := Lib.hid (hv5.out.stand HT.out hk6.out.1 hk6.out.2)
        have G := ht6.out.dirtyL
        rw [HDI.out] at G
        have G := Lib.hid G
        clear hv5 hk6
        go_wp2_with fail
        refine G.out.mono ?_
        rintro e w7 ⟨u, rfl, hu, hb7, _⟩
        obtain ⟨au, cu, hue⟩ : ∃ ao c, u = .slice ao 0 c := by obtain ⟨ao, c, h, _⟩ := hu.out; exact ⟨ao, c, h⟩
        subst hue
        have ht7 := Lib.hid (ht6.out.below hb7.out)
        have hv7 := Lib.hid (hv6.out.below hb7.out)
        have G := ht7.out.swap.dirtyL
        rw [HCI.out] at G
        have G := Lib.hid G
        clear hv6 ht6 hu hb7
        go_wp2_with fail
        refine G.out.mono ?_
        rintro e w8 ⟨u, rfl, hu, hb8, _⟩
        obtain ⟨au2, cu2, hue⟩ : ∃ ao c, u = .slice ao 0 c := by obtain ⟨ao, c, h, _⟩ := hu.out; exact ⟨ao, c, h⟩
        subst hue
        have ht8 := Lib.hid (ht7.out.below hb8.out)
        have hv8 := Lib.hid (hv7.out.below hb8.out)
        clear hv7 ht7 hu hb8 G
        go_wp2_with fail
        go_loopw [13] (fun iv wr2 => ∃ i : Nat, i ≤ m ∧ iv = .int .i64 (i : Int) ∧ Hid (Below w8.heap.size w8 wr2)) (fun iv _ => m - (intOf iv).toNat)
        case atStart => exact ⟨0, Nat.zero_le _, rfl, (show Below _ _ _ from Below.refl _ _)⟩
        case round =>
          obtain ⟨i, hi, rfl, HB⟩ := hrel
          by_cases hlt2 : i < m
          · have hiz : (i : Int) < (m : Int) := by omega
            have hiD : i < DD.length := by rw [HM.out]; exact hlt2
            obtain ⟨g, rfl, hgl, e08, _⟩ := hv8.out.at hiD
            have HE : Hid (∀ W, Below w8.heap.size w8 W → W.cell? ⟨g, i * 2, none⟩ = some (.int .i64 DD[i].1)) := fun W hW => (hW.cell (p := ⟨g, i * 2, none⟩) hgl).trans e08
            have e0 := HE.out _ HB.out
            clear e08
            have hxm : DD[i] ∈ DD := List.getElem_mem hiD
            obtain ⟨Q, hf, kf, q1, q2, f1, f2, HBK, HHS⟩ := two_has ht8.out HL1.out HL2.out (HG1.out _ hxm) (HG2.out _ hxm)
            clear hxm
            generalize DD[i] = x at *
            clear hiD
            obtain ⟨x1, x2⟩ := x
            go_wp2_with fail
            go_region_held3 (fun W : World => W.cell? ⟨g, i * 2, none⟩ = some (.int .i64 x1))
              (first | exact e0 | assumption)
              (first
                | (go_at_call 16; refine (HBK.out _ (by first | exact q1 | exact q2) _ (by first | exact HB.out.drew | exact hb9.out)).mono ?_; rintro e w9 ⟨vk, rfl, hvk, hb9⟩; have e9 := HE.out _ hb9.out)
                | (go_at_call 24; refine (HHS.out _ (by first | exact q1 | exact q2) _ _ hvk.out).mono ?_; rintro e w10 ⟨rfl, rfl⟩))
            have HBN := Lib.hid hb9.out
            go_wp2
            go_roundw
            case rel => exact ⟨i + 1, by omega, by go_num, HBN.out⟩
            case measure => simp [intOf]; omega
          · have hiz : ¬ (i : Int) < (m : Int) := by omega
            have ht9 := Lib.hid (ht8.out.below HB.out)
            have hv9 := Lib.hid (hv8.out.below HB.out)
            clear ht8 hv8 HB
            go_wp2_with fail
            go_loopw [14, 15, 16] (fun iv _ _ wr3 => ∃ i : Nat, i ≤ m ∧ iv = .int .i64 (i : Int) ∧ Hid (∃ D, Two T w wr3 p1 p2 C.drop D ∧ Tells DD D ∧ D.misses < 1000000) ∧ Hid (SlW wr3 (.slice aod m cd) DD)) (fun iv _ _ _ => m - (intOf iv).toNat)
            case atStart => exact ⟨0, Nat.zero_le _, rfl, ⟨_, ht9.out, HTL.out, HMS.out⟩, hv9.out⟩
            case round =>
              obtain ⟨i, hi, rfl, HD, HV⟩ := hrel
              clear ht9 hv9
              obtain ⟨D, hD⟩ := HD.out
              have HDD := Lib.hid hD
              clear hD HD
              by_cases hlt3 : i < m
              · have hiz : (i : Int) < (m : Int) := by omega
                have hiD : i < DD.length := by rw [HM.out]; exact hlt3
                have hxm : DD[i] ∈ DD := List.getElem_mem hiD
                have HX : Hid (∀ W, SlW W (.slice aod m cd) DD → ∃ g, aod = some ⟨g, 0, none⟩ ∧ g < W.heap.size ∧ W.cell? ⟨g, i * 2, none⟩ = some (.int .i64 DD[i].1) ∧ W.cell? ⟨g, i * 2 + 1, none⟩ = some (.string DD[i].2)) := fun W h => h.at hiD
                have G := Lib.hid (HDD.out.1.gets HDD.out.2.1 HDD.out.2.2 hxm (HRG.out _ hxm))
                obtain ⟨g, hg, _, e0, e1⟩ := HX.out _ HV.out
                subst hg
                clear hxm e1
                generalize DD[i] = x at *
                clear hiD
                obtain ⟨x1, x2⟩ := x
                go_wp2_with fail
                refine G.out.mono ?_
                rintro e w9 ⟨rfl, hd9, hk9⟩
                have hv9 := Lib.hid (HV.out.stand HT.out hk9.out.1 hk9.out.2)
                obtain ⟨g', hg', _, f0, f1⟩ := HX.out _ hv9.out
                obtain rfl : g = g' := by simpa using hg'
                clear hg' e0
                go_wp2
                go_roundw
                case rel => exact ⟨i + 1, by omega, by go_num, hd9.out, hv9.out⟩
                case measure => simp [intOf]; omega
              · have hiz : ¬ (i : Int) < (m : Int) := by omega
                have HBE := Lib.hid HDD.out.1.bel
                go_wp2
                go_ret
                exact ⟨rfl, HBE.out⟩
end Go.Proofs.Ytgfgmpgeddienaa

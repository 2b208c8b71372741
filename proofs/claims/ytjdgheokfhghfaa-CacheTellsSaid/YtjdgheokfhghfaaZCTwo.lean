/- Two caches side by side, and blocks that stand by. -/
import Derived.Test.YtjdgheokfhghfaaZCSteps
import Derived.Test.YtjdgheokfhghfaaZCDirty
import Derived.Deep.RegionLaw

namespace Go.Proofs.Ytjdgheokfhghfaa
open Go.RowKit

section
variable {S : Nat → Prop} {w w' : World} {p : Nat} {src : Value} {C : CS} {N : Nat}
theorem does_cch (h : Cch S w p src0 C) (a : Act6) (ha : a.Ok) (hb : Bd N C) (hN : N < 1000000) :
    Calls Try.prog 13 #[.pointer (some ⟨p, 0, none⟩), .agg #[.int .i64 a.op, .int .i64 a.at_, .int .u8 a.b, .bool a.bad]] w fun e w' => e = .returned (.tuple #[.string (C.does a).1.1, .int .i64 (C.does a).1.2]) ∧ CLeaves S w w' p src0 (C.does a).2 := by
  have hq := a.q_lt
  have hp : ∀ x ∈ C.L, x.pins < 1000000 := fun x hx => by have := hb.pn x hx; omega
  have hm : C.misses < 1000000 := by have := hb.ms; omega
  unfold CS.does
  by_cases q4 : a.q = 4 ∨ a.q = 5
  · rw [if_pos q4]; exact does_put a ha q4 h
  · rw [if_neg q4]
    by_cases q6 : a.q = 6
    · rw [if_pos q6]; exact does_pin a ha q6 h hp
    · rw [if_neg q6]
      by_cases q7 : a.q = 7
      · rw [if_pos q7]; exact does_unpin a ha q7 h
      · rw [if_neg q7]
        by_cases q8 : a.q = 8
        · rw [if_pos q8]; exact does_clean a ha q8 h
        · rw [if_neg q8]
          by_cases q9 : a.q = 9
          · rw [if_pos q9]; exact does_drop a ha q9 h
          · rw [if_neg q9]
            refine does_get a ha (by omega) _ _ (fun w' => CLeaves S w w' p src0 (C.get a.i (told a.i) (toldE a.i)).2) fun W hW => ?_
            exact (get_any a.i ha.i (h.below hW) hm).mono fun e w' ⟨he, hl⟩ => ⟨he, hl.after (Only.of_below _ hW (Nat.le_refl _))⟩
end

/-! What Drop and Clean leave, in plain lists. -/
section
variable {C : CS}
theorem drop_dirty (C : CS) : C.drop.dirty = [] := by
  have : dls C.drop.L = [] := by
    unfold dls CS.drop
    simp only [List.filter_filter]
    rw [show (fun a : Kp => a.dirty && !a.dirty) = fun _ => false from funext fun a => by cases a.dirty <;> rfl]
    simp
  unfold CS.dirty
  rw [this]; rfl
theorem clean_dirty (C : CS) : C.clean.dirty = [] := by
  have : dls C.clean.L = [] := by
    unfold dls CS.clean
    rw [List.map_eq_nil_iff, List.filter_eq_nil_iff]
    intro x hx
    obtain ⟨y, _, rfl⟩ := List.mem_map.1 hx
    simp
  unfold CS.dirty
  rw [this]; rfl
theorem dirty_mem {x : Wr} (h : x ∈ C.dirty) : ∃ y ∈ C.L, y.dirty = true ∧ x = (y.key, y.data) := dls_mem (C.dirty_perm.subset h)
theorem dirty_gone (ok : C.Ok) {x : Wr} (h : x ∈ C.dirty) : x.1 ∉ keys C.drop.L := by
  obtain ⟨y, hy, hd, rfl⟩ := dirty_mem h
  intro hm
  obtain ⟨z, hz, he⟩ := List.mem_map.1 hm
  obtain ⟨hz1, hz2⟩ := List.mem_filter.1 hz
  have := key_is ok.nodup hz1 hy he
  subst this
  rw [hd] at hz2; cases hz2
theorem dirty_there {x : Wr} (h : x ∈ C.dirty) : x.1 ∈ keys C.clean.L := by
  obtain ⟨y, hy, hd, rfl⟩ := dirty_mem h
  exact List.mem_map.2 ⟨_, List.mem_map.2 ⟨y, hy, rfl⟩, rfl⟩
/-- All of M is kept, with these data. -/
def Tells (M : List Wr) (C : CS) : Prop := ∀ x ∈ M, ∃ y ∈ C.L, y.key = x.1 ∧ y.data = x.2
theorem tells_clean (C : CS) : Tells C.dirty C.clean := by
  intro x hx
  obtain ⟨y, hy, hd, rfl⟩ := dirty_mem hx
  exact ⟨_, List.mem_map.2 ⟨y, hy, rfl⟩, rfl, rfl⟩
theorem Tells.get {M : List Wr} (h : Tells M C) (ok : C.Ok) {x : Wr} (hx : x ∈ M) (t : ByteArray) (e : Int) : ∃ k y, fx C.L x.1 = some (k, y) ∧ C.get x.1 t e = ((x.2, 0), { C with L := y :: C.L.eraseIdx k }) ∧ Tells M { C with L := y :: C.L.eraseIdx k } := by
  obtain ⟨y, hy, h1, h2⟩ := h x hx
  obtain ⟨k, hk, rfl⟩ := List.getElem_of_mem hy
  have hf := fx_of ok.nodup hk
  rw [h1] at hf
  refine ⟨k, C.L[k], hf, ?_, fun z hz => ?_⟩
  · unfold CS.get; rw [hf]; simp only [h2]
  · obtain ⟨u, hu, h3⟩ := h z hz
    exact ⟨u, (perm_front hk).symm.subset hu, h3⟩
end
/-- Caches at p1 and p2, apart; the blocks of T are neither's. -/
structure Two (T : Nat → Prop) (w0 w : World) (p1 p2 : Nat) (C1 C2 : CS) : Prop where
  ex : ∃ S1 S2 : Nat → Prop, (∀ k, S1 k → w0.heap.size ≤ k) ∧ (∀ k, S2 k → w0.heap.size ≤ k) ∧ (∀ k, S1 k → ¬ S2 k) ∧ (∀ k, T k → ¬ S1 k ∧ ¬ S2 k) ∧ Cch S1 w p1 src0 C1 ∧ Cch S2 w p2 src0 C2
  lt : ∀ k, T k → k < w.heap.size
  bel : Below w0.heap.size w0 w
section
variable {T T' : Nat → Prop} {w0 w w' : World} {p1 p2 : Nat} {C1 C2 C' : CS}
theorem Two.swap (h : Two T w0 w p1 p2 C1 C2) : Two T w0 w p2 p1 C2 C1 := by
  obtain ⟨S1, S2, h1, h2, h3, h4, h5, h6⟩ := h.ex
  exact ⟨⟨S2, S1, h2, h1, fun k a b => h3 k b a, fun k hk => ⟨(h4 k hk).2, (h4 k hk).1⟩, h6, h5⟩, h.lt, h.bel⟩
theorem Two.below (h : Two T w0 w p1 p2 C1 C2) (hb : Below w.heap.size w w') : Two T w0 w' p1 p2 C1 C2 := by
  obtain ⟨S1, S2, h1, h2, h3, h4, h5, h6⟩ := h.ex
  exact ⟨⟨S1, S2, h1, h2, h3, h4, h5.below hb, h6.below hb⟩, fun k hk => Nat.lt_of_lt_of_le (h.lt k hk) hb.size, h.bel.trans (hb.mono h.bel.size)⟩
/-- Blocks that are new stand by from here on. -/
theorem Two.keep (h : Two T w0 w p1 p2 C1 C2) (hb : Below w.heap.size w w') (hT : ∀ k, T' k → w.heap.size ≤ k ∧ k < w'.heap.size) : Two T' w0 w' p1 p2 C1 C2 := by
  obtain ⟨S1, S2, h1, h2, h3, h4, h5, h6⟩ := h.ex
  exact ⟨⟨S1, S2, h1, h2, h3, fun k hk => ⟨fun hs => by have := h5.lt k hs; have := (hT k hk).1; omega, fun hs => by have := h6.lt k hs; have := (hT k hk).1; omega⟩, h5.below hb, h6.below hb⟩, fun k hk => (hT k hk).2, h.bel.trans (hb.mono h.bel.size)⟩
theorem Two.left (h : Two T w0 w p1 p2 C1 C2) {f : FuncId} {args : Array Value} {v : Value} (hc : ∀ S, Cch S w p1 src0 C1 → Calls Try.prog f args w fun e w' => e = .returned v ∧ CLeaves S w w' p1 src0 C') :
    Calls Try.prog f args w fun e w' => e = .returned v ∧ Hid (Two T w0 w' p1 p2 C' C2) ∧ Hid (w.heap.size ≤ w'.heap.size ∧ ∀ k, T k → w'.heap[k]? = w.heap[k]?) := by
  obtain ⟨S1, S2, h1, h2, h3, h4, h5, h6⟩ := h.ex
  refine (hc S1 h5).mono fun e w' ⟨he, S', i1, i2, i3⟩ => ⟨he, ⟨⟨S', S2, fun k hk => ?_, h2, fun k hk hs => ?_, fun k hk => ⟨fun hs => ?_, (h4 k hk).2⟩, i2, h6.kept i3 (fun k hk hs => h3 k hs hk)⟩, fun k hk => Nat.lt_of_lt_of_le (h.lt k hk) i3.size, h.bel.trans (i3.below h.bel.size (fun k _ hk => h1 k hk))⟩, i3.size, fun k hk => i3.block k (h.lt k hk) (h4 k hk).1⟩
  · rcases i1 k hk with e | e
    · exact h1 k e
    · exact Nat.le_trans h.bel.size e
  · rcases i1 k hk with e | e
    · exact h3 k e hs
    · have := h6.lt k hs; omega
  · rcases i1 k hs with e | e
    · exact (h4 k hk).1 e
    · have := h.lt k hk; omega
theorem Two.right (h : Two T w0 w p1 p2 C1 C2) {f : FuncId} {args : Array Value} {v : Value} (hc : ∀ S, Cch S w p2 src0 C2 → Calls Try.prog f args w fun e w' => e = .returned v ∧ CLeaves S w w' p2 src0 C') :
    Calls Try.prog f args w fun e w' => e = .returned v ∧ Hid (Two T w0 w' p1 p2 C1 C') ∧ Hid (w.heap.size ≤ w'.heap.size ∧ ∀ k, T k → w'.heap[k]? = w.heap[k]?) :=
  (h.swap.left hc).mono fun e w' ⟨he, ht, hk⟩ => ⟨he, ht.out.swap, hk⟩
theorem SlW.stand {v : Value} {L : List Wr} (h : SlW w v L) (hT : L ≠ [] → ∀ k, v.ownBlock = some k → T k) (hs : w.heap.size ≤ w'.heap.size) (hk : ∀ k, T k → w'.heap[k]? = w.heap[k]?) : SlW w' v L := by
  obtain ⟨ao, c, rfl, h⟩ := h
  refine ⟨ao, c, rfl, ?_⟩
  by_cases hL : L = []
  · exact .inl hL
  · rcases h with h | ⟨b, e, hlt, hc⟩
    · exact .inl h
    · subst e
      have hb := hk b (hT hL b rfl)
      exact .inr ⟨b, rfl, Nat.lt_of_lt_of_le hlt hs, fun j hj => ⟨(World.cell?_of_block (a := ⟨b, j * 2, none⟩) hb).trans (hc j hj).1, (World.cell?_of_block (a := ⟨b, j * 2 + 1, none⟩) hb).trans (hc j hj).2⟩⟩
theorem SlW.block {v : Value} {L : List Wr} {k : Nat} (h : SlW w v L) (hL : L ≠ []) (e : v.ownBlock = some k) : k < w.heap.size := by
  obtain ⟨ao, c, rfl, h⟩ := h
  rcases h with h | ⟨b, e', hlt, _⟩
  · exact absurd h hL
  · subst e'; cases e; exact hlt
theorem Two.ok1 (h : Two T w0 w p1 p2 C1 C2) : C1.Ok := by obtain ⟨S1, S2, h1, h2, h3, h4, h5, h6⟩ := h.ex; exact h5.ok
theorem Two.ok2 (h : Two T w0 w p1 p2 C1 C2) : C2.Ok := by obtain ⟨S1, S2, h1, h2, h3, h4, h5, h6⟩ := h.ex; exact h6.ok
theorem Two.dirtyL (h : Two T w0 w p1 p2 C1 C2) : Calls Try.prog 17 #[.pointer (some ⟨p1, 0, none⟩)] w fun e w' => ∃ v, e = .returned v ∧ Hid (SlW w' v C1.dirty) ∧ Hid (Below w.heap.size w w') ∧ Hid (∀ k, v.ownBlock = some k → w.heap.size ≤ k) := by
  obtain ⟨S1, S2, h1, h2, h3, h4, h5, h6⟩ := h.ex
  exact dirty_any h5
theorem Two.blocksL (h : Two T w0 w p1 p2 C1 C2) : Calls Try.prog 16 #[.pointer (some ⟨p1, 0, none⟩)] w fun e w' => ∃ v, e = .returned v ∧ Hid (SlI w' v (keys C1.L)) ∧ Hid (Below w.heap.size w w') := by
  obtain ⟨S1, S2, h1, h2, h3, h4, h5, h6⟩ := h.ex
  exact (blocks_any h5).mono fun e w' ⟨v, he, hr, hb⟩ => ⟨v, he, SlI.of_own hr, hb⟩
theorem Two.gets {M : List Wr} (h : Two T w0 w p1 p2 C1 C2) (hm : Tells M C2) (hms : C2.misses < 1000000) {x : Wr} (hx : x ∈ M) (hi : -9223372036854775808 ≤ x.1 ∧ x.1 ≤ 9223372036854775807) :
    Calls Try.prog 22 #[.pointer (some ⟨p2, 0, none⟩), .int .i64 x.1] w fun e w' => e = .returned (.tuple #[.string x.2, .int .i64 0]) ∧ Hid (∃ D, Two T w0 w' p1 p2 C1 D ∧ Tells M D ∧ D.misses < 1000000) ∧ Hid (w.heap.size ≤ w'.heap.size ∧ ∀ k, T k → w'.heap[k]? = w.heap[k]?) := by
  obtain ⟨k, y, hf, hg, ht⟩ := hm.get h.ok2 hx (told x.1) (toldE x.1)
  refine (h.right (C' := { C2 with L := y :: C2.L.eraseIdx k }) (v := .tuple #[.string x.2, .int .i64 0]) fun S hc => ?_).mono fun e w' ⟨he, h2, h3⟩ => ⟨he, ⟨_, h2.out, ht, hms⟩, h3.out⟩
  have := get_any x.1 hi hc hms
  rw [hg] at this
  exact this
theorem new_two_homes (m : Nat) (w0 w : World) (h : Home w0 w p1 C1) (h1 : 1 ≤ m) (h2 : m ≤ 1024) :
    Calls Try.prog 10 #[src0, .int .i64 (m : Int)] w fun e w' => ∃ p2, e = .returned (.tuple #[.pointer (some ⟨p2, 0, none⟩), .int .i64 0]) ∧ Hid (Two (fun _ => False) w0 w' p1 p2 C1 (CS.new m)) := by
  obtain ⟨S, i1, i2, i3⟩ := h
  refine (new_yes _ _ m w h1 h2).mono fun e w' ⟨p, he, S2, hS, hc, hb'⟩ => ⟨p, he, ⟨S, S2, i1, fun k hk => Nat.le_trans i3.size (hS k hk), fun k a b => by have := i2.lt k a; have := hS k b; omega, fun k hk => hk.elim, i2.below hb', hc⟩, fun k hk => hk.elim, i3.trans (hb'.mono i3.size)⟩
end

end Go.Proofs.Ytjdgheokfhghfaa
/- CacheTells in plain lists: what is put, and what is told. -/
namespace Go.Proofs.Ytjdgheokfhghfaa
open Go.RowKit

/-- What was put last of block i, else t. -/
def lastW (put : List Wr) (i : Int) (t : ByteArray) : ByteArray := put.foldl (fun acc x => if x.1 = i then x.2 else acc) t
theorem lastW_none {put : List Wr} {i : Int} (h : ∀ x ∈ put, x.1 ≠ i) (t : ByteArray) : lastW put i t = t := by
  unfold lastW
  induction put generalizing t with
  | nil => rfl
  | cons x r ih =>
    rw [List.foldl_cons, if_neg (h x (List.mem_cons_self ..))]
    exact ih (fun y hy => h y (List.mem_cons_of_mem _ hy)) t
theorem lastW_snoc (put : List Wr) (x : Wr) (i : Int) (t : ByteArray) : lastW (put ++ [x]) i t = if x.1 = i then x.2 else lastW put i t := by unfold lastW; rw [List.foldl_append]; rfl
/-- lastW, by and by. -/
theorem lastW_take (put : List Wr) (i : Int) (t : ByteArray) : ∃ LW : Nat → ByteArray, LW 0 = t ∧ LW put.length = lastW put i t ∧ ∀ k (h : k < put.length), LW (k + 1) = if put[k].1 = i then put[k].2 else LW k :=
  ⟨fun k => lastW (put.take k) i t, rfl, by show lastW (put.take put.length) i t = _; rw [List.take_length], fun k h => by
    show lastW (put.take (k + 1)) i t = if put[k].1 = i then put[k].2 else lastW (put.take k) i t
    rw [List.take_succ_eq_append_getElem h, lastW_snoc]⟩
/-- What the walk keeps: what is kept is what was put last, or what the source tells; what was put is kept, dirty. -/
structure Told (put : List Wr) (C : CS) : Prop where
  data : ∀ y ∈ C.L, y.data = lastW put y.key (told y.key)
  puts : ∀ x ∈ put, ∃ y ∈ C.L, y.key = x.1 ∧ y.dirty = true
theorem Told.none {put : List Wr} {C : CS} (h : Told put C) {i : Int} (hi : i ∉ keys C.L) : ∀ x ∈ put, x.1 ≠ i := by
  intro x hx e
  obtain ⟨y, hy, hk, _⟩ := h.puts x hx
  exact hi (e ▸ hk ▸ List.mem_map.2 ⟨y, hy, rfl⟩)
/-- What is put by an act that was OK. -/
def putA (put : List Wr) (C : CS) (a : Act6) : List Wr := if a.q = 9 then [] else if (a.q = 4 ∨ a.q = 5) ∧ (C.does a).1.2 = 0 then put ++ [(a.i, fl a.b)] else put
theorem Kp.dirty_held {x : Kp} (h : x.dirty = true) : x.free = false := by unfold Kp.free; rw [h]; rfl
theorem Told.get {put : List Wr} {C : CS} (h : Told put C) (ok : C.Ok) (i : Int) : Told put (C.get i (told i) (toldE i)).2 ∧ ((C.get i (told i) (toldE i)).1.2 = 0 → (C.get i (told i) (toldE i)).1.1 = lastW put i (told i)) := by
  unfold CS.get
  cases hf : fx C.L i with
  | some ky =>
    obtain ⟨k, y⟩ := ky
    obtain ⟨hk, h1, h2, _⟩ := fx_some hf
    have hp := perm_front hk
    rw [h1] at hp
    refine ⟨⟨fun z hz => h.data z (hp.subset hz), fun x hx => ?_⟩, fun _ => ?_⟩
    · obtain ⟨z, hz, hz2⟩ := h.puts x hx
      exact ⟨z, hp.symm.subset hz, hz2⟩
    · show y.data = _
      rw [h.data y (fx_mem hf), h2]
  | none =>
    simp only
    split
    · exact ⟨h, fun e => absurd e (by assumption)⟩
    · cases hr : room C.L C.most with
      | none => exact ⟨h, fun e => by have h2 : (14 : Int) = 0 := e; omega⟩
      | some M =>
        have hn := h.none (fx_none_iff.1 hf)
        refine ⟨⟨fun z hz => ?_, fun x hx => ?_⟩, fun _ => (lastW_none hn _).symm⟩
        · rcases List.mem_cons.1 hz with rfl | hz
          · exact (lastW_none hn _).symm
          · exact h.data z ((room_sub hr).subset hz)
        · obtain ⟨z, hz, hz2, hz3⟩ := h.puts x hx
          exact ⟨z, List.mem_cons_of_mem _ (room_keeps hr hz (Kp.dirty_held hz3)), hz2, hz3⟩
theorem Told.put {put : List Wr} {C : CS} (h : Told put C) (ok : C.Ok) (i : Int) (s : ByteArray) : Told (if (C.put i s).1 = 0 then put ++ [(i, s)] else put) (C.put i s).2 := by
  unfold CS.put
  split
  · rw [if_neg (by show (3 : Int) ≠ 0; omega)]; exact h
  · cases hf : fx C.L i with
    | some ky =>
      obtain ⟨k, y⟩ := ky
      obtain ⟨hk, h1, h2, _⟩ := fx_some hf
      simp only
      rw [if_pos trivial]
      refine ⟨fun z hz => ?_, fun x hx => ?_⟩
      · rcases List.mem_cons.1 hz with rfl | hz
        · rw [lastW_snoc, if_pos h2.symm]
        · have hne : i ≠ z.key := fun e => not_mem_erase ok.nodup hf (List.mem_map.2 ⟨z, hz, e.symm⟩)
          rw [lastW_snoc, if_neg hne]; exact h.data z (mem_erase hz)
      · rcases List.mem_append.1 hx with hx | hx
        · obtain ⟨z, hz, hz2, hz3⟩ := h.puts x hx
          by_cases e : z.key = i
          · exact ⟨_, List.mem_cons_self .., by show y.key = x.1; rw [h2, ← hz2, e], rfl⟩
          · exact ⟨z, List.mem_cons_of_mem _ (erase_other hf hz e), hz2, hz3⟩
        · rw [List.mem_singleton.1 hx]
          exact ⟨_, List.mem_cons_self .., h2, rfl⟩
    | none =>
      simp only
      cases hr : room C.L C.most with
      | none => simp only; rw [if_neg (by omega)]; exact h
      | some M =>
        simp only
        rw [if_pos trivial]
        have hni := fx_none_iff.1 hf
        refine ⟨fun z hz => ?_, fun x hx => ?_⟩
        · rcases List.mem_cons.1 hz with rfl | hz
          · rw [lastW_snoc, if_pos rfl]
          · have hne : i ≠ z.key := fun e => hni (List.mem_map.2 ⟨z, (room_sub hr).subset hz, e.symm⟩)
            rw [lastW_snoc, if_neg hne]; exact h.data z ((room_sub hr).subset hz)
        · rcases List.mem_append.1 hx with hx | hx
          · obtain ⟨z, hz, hz2, hz3⟩ := h.puts x hx
            exact ⟨z, List.mem_cons_of_mem _ (room_keeps hr hz (Kp.dirty_held hz3)), hz2, hz3⟩
          · rw [List.mem_singleton.1 hx]
            exact ⟨_, List.mem_cons_self .., rfl, rfl⟩
theorem Told.set {put : List Wr} {C : CS} (h : Told put C) {i : Int} {k : Nat} {y z : Kp} (hf : fx C.L i = some (k, y)) (h1 : z.key = y.key) (h2 : z.data = y.data) (h3 : z.dirty = y.dirty) : Told put { C with L := C.L.set k z } := by
  obtain ⟨hk, e1, e2, _⟩ := fx_some hf
  refine ⟨fun u hu => ?_, fun x hx => ?_⟩
  · rcases List.mem_or_eq_of_mem_set hu with hu | rfl
    · exact h.data u hu
    · rw [h2, h1]; exact h.data y (fx_mem hf)
  · obtain ⟨u, hu, hu2, hu3⟩ := h.puts x hx
    obtain ⟨j, hj, rfl⟩ := List.getElem_of_mem hu
    by_cases e : j = k
    · subst e
      rw [e1] at hu2 hu3
      exact ⟨z, List.mem_set hk _, h1.trans hu2, h3.trans hu3⟩
    · refine ⟨C.L[j], ?_, hu2, hu3⟩
      have : (C.L.set k z)[j]'(by simpa using hj) = C.L[j] := by rw [List.getElem_set_ne (Ne.symm e)]
      rw [← this]; exact List.getElem_mem _
theorem Told.drop {put : List Wr} {C : CS} (h : Told put C) (ok : C.Ok) : Told [] C.drop := by
  refine ⟨fun y hy => ?_, fun x hx => by cases hx⟩
  obtain ⟨hy1, hy2⟩ := List.mem_filter.1 hy
  rw [h.data y hy1]
  have : ∀ x ∈ put, x.1 ≠ y.key := by
    intro x hx e
    obtain ⟨z, hz, hz2, hz3⟩ := h.puts x hx
    have := key_is ok.nodup hz hy1 (hz2.trans e)
    subst this
    rw [hz3] at hy2; cases hy2
  rw [lastW_none this]; rfl
theorem Told.does {put : List Wr} {C : CS} (h : Told put C) (ok : C.Ok) (a : Act6) (h8 : a.q ≠ 8) : Told (putA put C a) (C.does a).2 := by
  have hq := a.q_lt
  unfold putA CS.does
  by_cases q4 : a.q = 4 ∨ a.q = 5
  · rw [if_neg (by omega), if_pos q4]
    have := h.put ok a.i a.s
    by_cases e : (C.put a.i a.s).1 = 0
    · rw [if_pos e] at this
      rw [if_pos ⟨q4, e⟩]
      have hs : a.s = fl a.b := by
        unfold Act6.s dataB
        by_cases hb : a.bad = true
        · have : (C.put a.i a.s).1 = 3 := by unfold CS.put; rw [if_pos]; unfold Act6.s dataB; rw [if_pos hb]; decide
          omega
        · rw [if_neg hb]
      rw [hs] at this ⊢
      exact this
    · rw [if_neg e] at this
      rw [if_neg (fun hh => e hh.2)]
      exact this
  · rw [if_neg q4]
    by_cases q6 : a.q = 6
    · rw [if_neg (by omega), if_neg (fun hh => q4 hh.1), if_pos q6]
      show Told put (C.pin a.i).2
      unfold CS.pin
      cases hf : fx C.L a.i with
      | some ky => exact h.set hf rfl rfl rfl
      | none => exact h
    · rw [if_neg q6]
      by_cases q7 : a.q = 7
      · rw [if_neg (by omega), if_neg (fun hh => q4 hh.1), if_pos q7]
        show Told put (C.unpin a.i).2
        unfold CS.unpin
        cases hf : fx C.L a.i with
        | some ky =>
          simp only
          split
          · exact h
          · exact h.set hf rfl rfl rfl
        | none => exact h
      · rw [if_neg q7, if_neg h8]
        by_cases q9 : a.q = 9
        · rw [if_pos q9, if_pos q9]; exact h.drop ok
        · rw [if_neg q9, if_neg (fun hh => q4 hh.1), if_neg q9]; exact (h.get ok a.i).1
theorem Told.new (m : Nat) : Told [] (CS.new m) := ⟨(fun y hy => by cases hy), (fun x hx => by cases hx)⟩
theorem does_most (C : CS) (a : Act6) : (C.does a).2.most = C.most := by
  unfold CS.does
  split
  · show (C.put a.i a.s).2.most = _
    unfold CS.put
    split
    · rfl
    · split
      · rfl
      · split <;> rfl
  · split
    · show (C.pin a.i).2.most = _
      unfold CS.pin
      split <;> rfl
    · split
      · show (C.unpin a.i).2.most = _
        unfold CS.unpin
        split
        · split <;> rfl
        · rfl
      · split
        · rfl
        · split
          · rfl
          · unfold CS.get
            split
            · rfl
            · split
              · rfl
              · split <;> rfl
/-- All that was put is among the dirty ones. -/
theorem Told.dirty {put : List Wr} {C : CS} (h : Told put C) : ∀ x ∈ put, ∃ y ∈ C.dirty, y.1 = x.1 := by
  intro x hx
  obtain ⟨y, hy, hk, hd⟩ := h.puts x hx
  exact ⟨_, C.dirty_perm.symm.subset (mem_dls hy hd), hk⟩
end Go.Proofs.Ytjdgheokfhghfaa
/- A cache, and a row of writes of one's own beside it; an append as a step of a region, told where the row lies behind it. -/
namespace Go.Proofs.Ytjdgheokfhghfaa
open Go.RowKit

section
variable {P : Program}
theorem step_append_where {ops : Array Oper} {o : Oper} {a : Act} {w : World} {K : Act → World → Prop} {Q : Exit → Act → World → Prop} {E : Prop} (hgd : o.guard = none) (s x : Operand) (t : TypeId)
    (ho : o.op = .call { callee := .builtin .append, args := #[s, x], argTypes := #[t, t] })
    (base : Nat) (e : TypeId) (i : TypeInfo) (z : Value) (size bytes : Nat) (ht : P.underlying t = some (.slice e)) (hi : P.info? e = some i) (hz : i.zero = some z)
    (hsize : i.size = size) (hby : i.bytes = bytes) (hzs : z.cells.size = size) (hsz : 0 < size)
    (v : Value) (n : Nat) (xs : List Value) (hs : a.eval s = v) (hown : w.ownsRow base e size v n xs)
    (ad : Addr) (m c : Nat) (news : List Value) (hx : a.eval x = .slice (some ad) m c) (hl : news.length = m * size) (hnews : ∀ j u, news[j]? = some u → w.cell? (ad.add j) = some u) (h1 : ∀ u ∈ news, u.oneCell' = true)
    (h63 : n + m ≤ maxLen) (hbytes : (n + m) * bytes ≤ 140737488355328) (hbase : base ≤ w.heap.size)
    (h : ∀ v' w', w'.ownsRow base e size v' (n + m) (xs ++ news) → w.grownBy w' v.ownBlock → (∀ k, v'.ownBlock = some k → v.ownBlock = some k ∨ w.heap.size ≤ k) → K (a.put o.dst v') w') :
    if Region.wanted o (yielded ops a.tmps) = true then Oper.wp P o a w K Q else E := by
  have hw : Region.wanted o (yielded ops a.tmps) = true := by simp [Region.wanted, hgd]
  rw [if_pos hw]
  obtain ⟨v', w', hr, h2, h3, h4⟩ := run_append_where (P := P) w base t o.type e i z size bytes ht hi hz hsize hby hzs hsz v n xs hown ad m c news hl hnews h1 h63 hbytes hbase
  unfold Oper.wp execOp
  simp only [ho, resolve, invoke, builtin, Sem.run_bind, Sem.run_pure, Result.andThen_ok, List.map_toArray, List.map_cons, List.map_nil, hs, hx, hr]
  exact h v' w' h2 h3 h4
end

/-- A cache at p that says C, and the row v of the writes put, on memory that is new and apart. -/
structure TW (w0 w : World) (p : Nat) (C : CS) (v : Value) (put : List Wr) : Prop where
  ex : ∃ S : Nat → Prop, (∀ k, S k → w0.heap.size ≤ k) ∧ Cch S w p src0 C ∧ ∀ k, v.ownBlock = some k → ¬ S k
  row : OwnW w0.heap.size w v put
  bel : Below w0.heap.size w0 w
section
variable {w0 w w' : World} {p : Nat} {C C' : CS} {v v' : Value} {put put' : List Wr}
theorem TW.ok (h : TW w0 w p C v put) : C.Ok := by obtain ⟨S, _, hc, _⟩ := h.ex; exact hc.ok
theorem TW.start (h : Home w0 w p C) : TW w0 w p C (.slice none 0 0) [] := by
  obtain ⟨S, h1, h2, h3⟩ := h
  exact ⟨⟨S, h1, h2, fun k e => by cases e⟩, OwnW.nil _ _, h3⟩
theorem TW.empty (h : TW w0 w p C v put) : TW w0 w p C (.slice none 0 0) [] := by
  obtain ⟨S, h1, h2, h3⟩ := h.ex
  exact ⟨⟨S, h1, h2, fun k e => by cases e⟩, OwnW.nil _ _, h.bel⟩
theorem TW.home (h : TW w0 w p C v put) : Home w0 w p C := by
  obtain ⟨S, h1, h2, _⟩ := h.ex
  exact ⟨S, h1, h2, h.bel⟩
theorem TW.below (h : TW w0 w p C v put) (hb : Below w.heap.size w w') : TW w0 w' p C v put := by
  obtain ⟨S, h1, h2, h3⟩ := h.ex
  exact ⟨⟨S, h1, h2.below hb, h3⟩, h.row.below hb, h.bel.trans (hb.mono h.bel.size)⟩
theorem TW.dirty (h : TW w0 w p C v put) : Calls Try.prog 17 #[.pointer (some ⟨p, 0, none⟩)] w fun e w' => ∃ v, e = .returned v ∧ Hid (SlW w' v C.dirty) ∧ Hid (Below w.heap.size w w') := by
  obtain ⟨S, h1, h2, h3⟩ := h.ex
  exact (dirty_any h2).mono fun e w' ⟨v, he, hs, hb, _⟩ => ⟨v, he, hs, hb⟩
theorem OwnW.sl {B : Nat} (h : OwnW B w v put) : SlW w v put := by
  cases put with
  | nil => obtain ⟨ao, c, hv⟩ := own_shape h; exact ⟨ao, c, hv, .inl rfl⟩
  | cons x r =>
    obtain ⟨g, c, hv⟩ := own_succ (n := r.length) h
    subst hv
    refine ⟨_, c, rfl, .inr ⟨g, rfl, (h.lt g rfl).2, fun j hj => ?_⟩⟩
    have hl := flatI_length (x :: r)
    exact ⟨by rw [World.ownsRow.cellAt h _ (by simp at hj ⊢; omega)]; exact flatI_fst _ j hj, by rw [World.ownsRow.cellAt h _ (by simp at hj ⊢; omega)]; exact flatI_snd _ j hj⟩
/-- A call on the cache leaves the row as it was. -/
theorem TW.act (h : TW w0 w p C v put) {f : FuncId} {args : Array Value} {r : Value} (hc : ∀ S, Cch S w p src0 C → Calls Try.prog f args w fun e w' => e = .returned r ∧ CLeaves S w w' p src0 C') :
    Calls Try.prog f args w fun e w' => e = .returned r ∧ Hid (TW w0 w' p C' v put) := by
  obtain ⟨S, h1, h2, h3⟩ := h.ex
  refine (hc S h2).mono fun e w' ⟨he, S', i1, i2, i3⟩ => ⟨he, ⟨S', fun k hk => ?_, i2, fun k e hk => ?_⟩, ?_, h.bel.trans (i3.below h.bel.size (fun k _ hk => h1 k hk))⟩
  · rcases i1 k hk with e | e
    · exact h1 k e
    · exact Nat.le_trans h.bel.size e
  · rcases i1 k hk with e' | e'
    · exact h3 k e e'
    · have := (h.row.lt k e).2; omega
  · refine ⟨h.row.1, ?_⟩
    rcases h.row.2 with hn | ⟨g, cap, cur, rfl, hB, hg, rest⟩
    · exact .inl hn
    · exact .inr ⟨g, cap, cur, rfl, hB, by rw [i3.block g (Array.getElem?_eq_some_iff.1 hg).1 (h3 g rfl)]; exact hg, rest⟩
/-- A call on the cache, an act's box beside it. -/
theorem TW.actA {A : Act6} {X : World} (h : TW w0 w p C v put) (hb : Below w.heap.size w X) (hlt : w.heap.size < X.heap.size) (hx : HeldX w.heap.size A X) {f : FuncId} {args : Array Value} {r : Value} (hc : ∀ S, Cch S X p src0 C → Calls Try.prog f args X fun e w' => e = .returned r ∧ CLeaves S X w' p src0 C') :
    Calls Try.prog f args X fun e w' => e = .returned r ∧ Hid (TW w0 w' p C' v put) ∧ HeldX w.heap.size A w' := by
  obtain ⟨S, h1, h2, h3⟩ := h.ex
  have hX := h.below hb
  refine (hc S (h2.below hb)).mono fun e w' ⟨he, hl⟩ => ⟨he, ?_, ?_⟩
  · obtain ⟨S', i1, i2, i3⟩ := hl
    refine ⟨⟨S', fun k hk => ?_, i2, fun k e hk => ?_⟩, ?_, hX.bel.trans (i3.below hX.bel.size (fun k _ hk => h1 k hk))⟩
    · rcases i1 k hk with e | e
      · exact h1 k e
      · exact Nat.le_trans hX.bel.size e
    · rcases i1 k hk with e' | e'
      · exact h3 k e e'
      · have := (hX.row.lt k e).2; omega
    · refine ⟨hX.row.1, ?_⟩
      rcases hX.row.2 with hn | ⟨g, cap, cur, rfl, hB, hg, rest⟩
      · exact .inl hn
      · exact .inr ⟨g, cap, cur, rfl, hB, by rw [i3.block g (Array.getElem?_eq_some_iff.1 hg).1 (h3 g rfl)]; exact hg, rest⟩
  · obtain ⟨_, _, _, ho⟩ := hl
    have hn : ¬ S w.heap.size := fun hs => by have := h2.lt _ hs; omega
    exact ⟨(ho.cell (p := ⟨w.heap.size, 0, none⟩) hlt hn).trans hx.1, (ho.cell (p := ⟨w.heap.size, 1, none⟩) hlt hn).trans hx.2.1, (ho.cell (p := ⟨w.heap.size, 2, none⟩) hlt hn).trans hx.2.2.1, (ho.cell (p := ⟨w.heap.size, 3, none⟩) hlt hn).trans hx.2.2.2⟩
/-- A write appended: w1 lies behind w, and the slice of one write is laid there. -/
theorem TW.push {w1 : World} {i : Int} {s : ByteArray} (h : TW w0 w1 p C v put) (hown : w'.ownsRow w0.heap.size 50 2 v' (put.length + 1) (flatI put ++ [.int .i64 i, .string s])) (hg : w1.grownBy w' v.ownBlock) (hw : ∀ k, v'.ownBlock = some k → v.ownBlock = some k ∨ w1.heap.size ≤ k) : TW w0 w' p C v' (put ++ [(i, s)]) := by
  obtain ⟨S, h1, h2, h3⟩ := h.ex
  have ho : Only (fun k => v.ownBlock = some k) w1 w' := ⟨hg.os, hg.tape, hg.output, hg.size, fun k hk hne => hg.block k hk (fun e => hne e.symm)⟩
  refine ⟨⟨S, h1, h2.kept ho (fun k hk e => h3 k e hk), fun k e hk => ?_⟩, own_pushW hown, h.bel.grown hg h.bel.size (fun k e => (h.row.lt k e).1)⟩
  rcases hw k e with e' | e'
  · exact h3 k e' hk
  · have := h2.lt k hk; omega
end
end Go.Proofs.Ytjdgheokfhghfaa
/- The walk of CacheDrops. -/
namespace Go.Proofs.Ytjdgheokfhghfaa
open Go.RowKit

theorem new_one2 (q : Nat) (w0 w : World) {p1 : Nat} {C1 : CS} (h : Home w0 w p1 C1) (hq : q < 8) :
    Calls Try.prog 10 #[src0, .int .i64 (1 + (q : Int))] w fun e w' => ∃ p2, e = .returned (.tuple #[.pointer (some ⟨p2, 0, none⟩), .int .i64 0]) ∧ Hid (Two (fun _ => False) w0 w' p1 p2 C1 (CS.new (1 + q))) := by
  have := new_two_homes (1 + q) w0 w h (by omega) (by omega)
  rwa [Int.natCast_add] at this
theorem Acts6.held {w0 W : World} {L : List Act6} {g off n cap : Nat} (h : Acts6 w0 (.slice (some ⟨g, off, none⟩) n cap) L) (hW : Below w0.heap.size w0 W) (j : Nat) (hj : j < L.length) : HeldG g (off + j * 4) L[j] W := by
  obtain ⟨g', off', cap'', hv'', i0, i1, i2, i3⟩ := h.cell hW j hj
  obtain ⟨⟨rfl, rfl⟩, _, _⟩ : (g = g' ∧ off = off') ∧ n = L.length ∧ cap = cap'' := by simpa using hv''
  exact ⟨i0, i1, i2, i3⟩

theorem SlW.at {W : World} {ao : Option Addr} {n c : Nat} {L : List Wr} (h : SlW W (.slice ao n c) L) {i : Nat} (hi : i < L.length) : ∃ g, ao = some ⟨g, 0, none⟩ ∧ g < W.heap.size ∧ W.cell? ⟨g, i * 2, none⟩ = some (.int .i64 L[i].1) ∧ W.cell? ⟨g, i * 2 + 1, none⟩ = some (.string L[i].2) := by
  obtain ⟨ao', c', hv, h⟩ := h
  obtain ⟨rfl, _, rfl⟩ : ao = ao' ∧ n = L.length ∧ c = c' := by simpa using hv
  rcases h with h | ⟨g, e, hlt, hc⟩
  · subst h; simp at hi
  · exact ⟨g, e, hlt, hc i hi⟩
/-- What is kept of both caches, and whether a number is among it: as functions of where the cache lies. -/
theorem two_has {T : Nat → Prop} {w0 w8 : World} {p1 p2 : Nat} {C1 C2 : CS} {x : Int} (h : Two T w0 w8 p1 p2 C1 C2) (l1 : (keys C1.L).length ≤ 5000) (l2 : (keys C2.L).length ≤ 5000) (h1 : x ∉ keys C1.L) (h2 : x ∈ keys C2.L) :
    ∃ (Q : Nat → Prop) (hf : Nat → Bool) (kf : Nat → List Int), Q p1 ∧ Q p2 ∧ hf p1 = false ∧ hf p2 = true ∧
      Hid (∀ q, Q q → ∀ W, Below w8.heap.size w8 W → Calls Try.prog 16 #[.pointer (some ⟨q, 0, none⟩)] W fun e w' => ∃ v, e = .returned v ∧ Hid (SlI w' v (kf q)) ∧ Hid (Below w8.heap.size w8 w')) ∧
      Hid (∀ q, Q q → ∀ W v, SlI W v (kf q) → Calls Try.prog 24 #[v, .int .i64 x] W fun e w' => e = .returned (.bool (hf q)) ∧ W = w') := by
  have hne : p2 ≠ p1 := by
    obtain ⟨S1, S2, _, _, h3, _, ⟨_, _, h5⟩, ⟨_, _, h6⟩⟩ := h.ex
    exact fun e => h3 p1 h5.sp (e ▸ h6.sp)
  refine ⟨fun q => q = p1 ∨ q = p2, fun q => decide (x ∈ (if q = p1 then keys C1.L else keys C2.L)), fun q => if q = p1 then keys C1.L else keys C2.L, .inl rfl, .inr rfl, ?_, ?_, ?_, ?_⟩
  · simp only [if_pos]; exact decide_eq_false h1
  · simp only [if_neg hne]; exact decide_eq_true h2
  · intro q hq W hW
    rcases hq with rfl | rfl
    · refine (h.below hW).blocksL.mono fun e w' ⟨v, he, hs, hb⟩ => ⟨v, he, ?_, hW.trans (hb.out.mono hW.size)⟩
      show SlI w' v (if q = q then keys C1.L else keys C2.L)
      rw [if_pos rfl]; exact hs.out
    · refine (h.below hW).swap.blocksL.mono fun e w' ⟨v, he, hs, hb⟩ => ⟨v, he, ?_, hW.trans (hb.out.mono hW.size)⟩
      show SlI w' v (if q = p1 then keys C1.L else keys C2.L)
      rw [if_neg hne]; exact hs.out
  · intro q hq W v hv
    refine has_any _ x v W hv ?_
    show (if q = p1 then keys C1.L else keys C2.L).length ≤ 5000
    split
    · exact l1
    · exact l2

set_option maxRecDepth 100000 in
set_option maxHeartbeats 4000000 in
theorem drops_any (a0 : Int) (v1 : Value) (L : List Act6) (w : World) (h0 : -9223372036854775808 ≤ a0 ∧ a0 ≤ 9223372036854775807) (hA : Acts6 w v1 L) :
    Calls Try.prog 8 #[.int .i64 a0, v1] w fun e w' => e = .returned (.bool true) ∧ Below w.heap.size w w' := by
  have HS := Lib.hid (shown_any w)
  obtain ⟨ao, cap, hv⟩ : ∃ ao cap, v1 = .slice ao L.length cap := by obtain ⟨_, _, ao, cap, hv, _⟩ := hA; exact ⟨ao, cap, hv⟩
  have hlen := hA.2.1
  have HA := Lib.hid hA
  have HV := Lib.hid hv
  obtain ⟨n, hn⟩ : ∃ n, L.length = n := ⟨_, rfl⟩
  have HN := Lib.hid hn
  rw [hn] at hlen hv
  subst hv
  clear hn hA
  by_cases hl : 200 < n
  · have hlz : (200 : Int) < (n : Int) := by omega
    clear hl h0
    go_enter Try.func8, Try.ntmps8
    go_wp2_with fail
    refine HS.out.mono ?_
    rintro e w1 ⟨rfl, hb⟩
    go_wp2
    go_ret
    exact ⟨rfl, hb.out⟩
  · have hlz : ¬ (200 : Int) < (n : Int) := by omega
    obtain ⟨q, hq, hqe⟩ := many_nat 0 a0
    have HP0 : Hid (∀ W, Calls Try.prog 12 #[.int .i64 a0, .int .i64 8] W fun e w' => e = .returned (.int .i64 (q : Int)) ∧ W = w') := fun W => by rw [← hqe]; exact pick_any a0 8 W h0 (by omega)
    have HNEW : Hid (∀ W, Below w.heap.size w W → Calls Try.prog 10 #[src0, .int .i64 (1 + (q : Int))] W fun e w' => ∃ p, e = .returned (.tuple #[.pointer (some ⟨p, 0, none⟩), .int .i64 0]) ∧ Hid (Home w w' p (CS.new (1 + q)))) := fun W hW => new_one q w W hW hq
    have HQ := Lib.hid hq
    clear hqe h0 hl
    go_enter Try.func8, Try.ntmps8
    go_wp2_with fail
    refine HS.out.mono ?_
    rintro e w1 ⟨rfl, hb⟩
    go_wp2_with fail
    refine (HP0.out _).mono ?_
    rintro e w1' ⟨rfl, rfl⟩
    have G := Lib.hid (HNEW.out w1 hb.out)
    clear HNEW HP0 hb
    go_wp2_with fail
    refine G.out.mono ?_
    rintro e w2 ⟨p1, rfl, c0⟩
    clear G
    have G := Lib.hid (new_one2 q w w2 c0.out HQ.out)
    clear c0
    go_wp2_with fail
    refine G.out.mono ?_
    rintro e w3 ⟨p2, rfl, c0⟩
    clear G
    have HST := Lib.hid (Bd.new (1 + q))
    generalize CS.new (1 + q) = C0 at *
    go_wp2_with fail
    go_loopw [11] (fun iv wr => ∃ j : Nat, j ≤ n ∧ iv = .int .i64 (j : Int) ∧ Hid (∃ C, Two (fun _ => False) w wr p1 p2 C C ∧ Bd j C)) (fun iv _ => n - (intOf iv).toNat)
    case atStart => exact ⟨0, Nat.zero_le _, rfl, C0, c0.out, HST.out⟩
    case round =>
      obtain ⟨j, hj, rfl, HI⟩ := hrel
      obtain ⟨C, hC⟩ := HI.out
      have HC := Lib.hid hC
      clear hC HI c0 HST
      by_cases hlt : j < n
      · have hkz : (j : Int) < (n : Int) := by omega
        have hkL : j < L.length := by rw [HN.out]; exact hlt
        obtain ⟨g, off, cap', hv', d0, d1, d2, d3⟩ := HA.out.cell HC.out.1.bel j hkL
        obtain ⟨rfl, hnl, rfl⟩ : ao = some ⟨g, off, none⟩ ∧ n = L.length ∧ cap = cap' := by simpa using hv'
        have HAO := Lib.hid (HA.out.1 L[j] (List.getElem_mem hkL))
        have HD : Hid (∀ W, Below w.heap.size w W → HeldG g (off + j * 4) L[j] W) := fun W hW => HA.out.held hW j hkL
        clear hv' hnl
        generalize L[j] = A at *
        have G := Lib.hid (HC.out.1.left fun S hc => does_cch hc A HAO.out HC.out.2 (by omega))
        have HBD := Lib.hid HC.out.2
        go_wp2_with fail
        refine G.out.mono ?_
        rintro e w4 ⟨rfl, hh, _⟩
        clear G d0 d1 d2 d3
        obtain ⟨d0, d1, d2, d3⟩ := HD.out w4 hh.out.bel
        have G := Lib.hid (hh.out.right fun S hc => does_cch hc A HAO.out HBD.out (by omega))
        have HBD2 := Lib.hid (HBD.out.does A)
        generalize C.does A = R at *
        go_wp2_with fail
        refine G.out.mono ?_
        rintro e w5 ⟨rfl, hh2, _⟩
        go_wp2
        go_roundw
        case rel => exact ⟨j + 1, by omega, by go_num, R.2, hh2.out, HBD2.out⟩
        case measure => simp [intOf]; omega
      · have hkz : ¬ (j : Int) < (n : Int) := by omega
        have HTW := Lib.hid HC.out.1
        have HOK := Lib.hid HC.out.1.ok1
        have HMS : Hid (C.clean.misses < 1000000) := by show C.misses < _; have := HC.out.2.ms; omega
        have HDI := Lib.hid (drop_dirty C)
        have HCI := Lib.hid (clean_dirty C)
        have HG1 : Hid (∀ x ∈ C.dirty, x.1 ∉ keys C.drop.L) := fun x hx => dirty_gone HOK.out hx
        have HG2 : Hid (∀ x ∈ C.dirty, x.1 ∈ keys C.clean.L) := fun x hx => dirty_there hx
        have HTL := Lib.hid (tells_clean C)
        have HRG : Hid (∀ x ∈ C.dirty, -9223372036854775808 ≤ x.1 ∧ x.1 ≤ 9223372036854775807) := fun x hx => by
          obtain ⟨y, hy, _, rfl⟩ := dirty_mem hx
          exact HOK.out.wf y hy
        have HLD : Hid (C.dirty.length ≤ 5000) := by
          show _ ≤ _
          have h1 := C.dirty_perm.length_eq
          have h2 := dls_len C.L
          have := HOK.out.len; have := HOK.out.m1; omega
        have HL1 : Hid ((keys C.drop.L).length ≤ 5000) := by show _ ≤ _; rw [keys_len]; have := HOK.out.drop.len; have := HOK.out.drop.m1; omega
        have HL2 : Hid ((keys C.clean.L).length ≤ 5000) := by show _ ≤ _; rw [keys_len]; have := HOK.out.clean.len; have := HOK.out.clean.m1; omega
        have G := Lib.hid HC.out.1.dirtyL
        clear HC HA
        go_wp2_with fail
        refine G.out.mono ?_
        rintro e w4 ⟨v, rfl, hv, hb4, hge⟩
        have HT4 : Hid (Two (fun k => v.ownBlock = some k ∧ C.dirty ≠ []) w w4 p1 p2 C C) := HTW.out.keep hb4.out (fun k hk => ⟨hge.out k hk.1, hv.out.block hk.2 hk.1⟩)
        have HT : Hid (C.dirty ≠ [] → ∀ k, v.ownBlock = some k → (fun k => v.ownBlock = some k ∧ C.dirty ≠ []) k) := fun h k e => ⟨e, h⟩
        clear G hb4 hge HTW
        generalize (fun k => v.ownBlock = some k ∧ C.dirty ≠ []) = T at *
        generalize C.dirty = DD at *
        obtain ⟨aod, cd, hvd⟩ : ∃ ao c, v = .slice ao DD.length c := by obtain ⟨ao, c, h, _⟩ := hv.out; exact ⟨ao, c, h⟩
        obtain ⟨m, hm⟩ : ∃ m, DD.length = m := ⟨_, rfl⟩
        have HM := Lib.hid hm
        have HMl : m ≤ 5000 := by rw [← hm]; exact HLD.out
        rw [hm] at hvd
        subst hvd
        clear hm
        have G := Lib.hid (HT4.out.left fun S hc => drop_any hc)
        clear HT4
        go_wp2_with fail
        refine G.out.mono ?_
        rintro e w5 ⟨rfl, ht5, hk5⟩
        have hv5 := Lib.hid (hv.out.stand HT.out hk5.out.1 hk5.out.2)
        have G := Lib.hid (ht5.out.right fun S hc => clean_any hc)
        clear hv ht5 hk5
        go_wp2_with fail
        refine G.out.mono ?_
        rintro e w6 ⟨rfl, ht6, hk6⟩
        have hv6 := Lib.hid (hv5.out.stand HT.out hk6.out.1 hk6.out.2)
        have G := ht6.out.dirtyL
        rw [HDI.out] at G
        have G := Lib.hid G
        clear hv5 hk6
        go_wp2_with fail
        refine G.out.mono ?_
        rintro e w7 ⟨u, rfl, hu, hb7, _⟩
        obtain ⟨au, cu, hue⟩ : ∃ ao c, u = .slice ao 0 c := by obtain ⟨ao, c, h, _⟩ := hu.out; exact ⟨ao, c, h⟩
        subst hue
        have ht7 := Lib.hid (ht6.out.below hb7.out)
        have hv7 := Lib.hid (hv6.out.below hb7.out)
        have G := ht7.out.swap.dirtyL
        rw [HCI.out] at G
        have G := Lib.hid G
        clear hv6 ht6 hu hb7
        go_wp2_with fail
        refine G.out.mono ?_
        rintro e w8 ⟨u, rfl, hu, hb8, _⟩
        obtain ⟨au2, cu2, hue⟩ : ∃ ao c, u = .slice ao 0 c := by obtain ⟨ao, c, h, _⟩ := hu.out; exact ⟨ao, c, h⟩
        subst hue
        have ht8 := Lib.hid (ht7.out.below hb8.out)
        have hv8 := Lib.hid (hv7.out.below hb8.out)
        clear hv7 ht7 hu hb8 G
        go_wp2_with fail
        go_loopw [13] (fun iv wr2 => ∃ i : Nat, i ≤ m ∧ iv = .int .i64 (i : Int) ∧ Hid (Below w8.heap.size w8 wr2)) (fun iv _ => m - (intOf iv).toNat)
        case atStart => exact ⟨0, Nat.zero_le _, rfl, (show Below _ _ _ from Below.refl _ _)⟩
        case round =>
          obtain ⟨i, hi, rfl, HB⟩ := hrel
          by_cases hlt2 : i < m
          · have hiz : (i : Int) < (m : Int) := by omega
            have hiD : i < DD.length := by rw [HM.out]; exact hlt2
            obtain ⟨g, rfl, hgl, e08, _⟩ := hv8.out.at hiD
            have HE : Hid (∀ W, Below w8.heap.size w8 W → W.cell? ⟨g, i * 2, none⟩ = some (.int .i64 DD[i].1)) := fun W hW => (hW.cell (p := ⟨g, i * 2, none⟩) hgl).trans e08
            have e0 := HE.out _ HB.out
            clear e08
            have hxm : DD[i] ∈ DD := List.getElem_mem hiD
            obtain ⟨Q, hf, kf, q1, q2, f1, f2, HBK, HHS⟩ := two_has ht8.out HL1.out HL2.out (HG1.out _ hxm) (HG2.out _ hxm)
            clear hxm
            generalize DD[i] = x at *
            clear hiD
            obtain ⟨x1, x2⟩ := x
            go_wp2_with fail
            go_region_held3 (fun W : World => W.cell? ⟨g, i * 2, none⟩ = some (.int .i64 x1))
              (first | exact e0 | assumption)
              (first
                | (go_at_call 16; refine (HBK.out _ (by first | exact q1 | exact q2) _ (by first | exact HB.out.drew | exact hb9.out)).mono ?_; rintro e w9 ⟨vk, rfl, hvk, hb9⟩; have e9 := HE.out _ hb9.out)
                | (go_at_call 24; refine (HHS.out _ (by first | exact q1 | exact q2) _ _ hvk.out).mono ?_; rintro e w10 ⟨rfl, rfl⟩))
            have HBN := Lib.hid hb9.out
            go_wp2
            go_roundw
            case rel => exact ⟨i + 1, by omega, by go_num, HBN.out⟩
            case measure => simp [intOf]; omega
          · have hiz : ¬ (i : Int) < (m : Int) := by omega
            have ht9 := Lib.hid (ht8.out.below HB.out)
            have hv9 := Lib.hid (hv8.out.below HB.out)
            clear ht8 hv8 HB
            go_wp2_with fail
            go_loopw [14, 15, 16] (fun iv _ _ wr3 => ∃ i : Nat, i ≤ m ∧ iv = .int .i64 (i : Int) ∧ Hid (∃ D, Two T w wr3 p1 p2 C.drop D ∧ Tells DD D ∧ D.misses < 1000000) ∧ Hid (SlW wr3 (.slice aod m cd) DD)) (fun iv _ _ _ => m - (intOf iv).toNat)
            case atStart => exact ⟨0, Nat.zero_le _, rfl, ⟨_, ht9.out, HTL.out, HMS.out⟩, hv9.out⟩
            case round =>
              obtain ⟨i, hi, rfl, HD, HV⟩ := hrel
              clear ht9 hv9
              obtain ⟨D, hD⟩ := HD.out
              have HDD := Lib.hid hD
              clear hD HD
              by_cases hlt3 : i < m
              · have hiz : (i : Int) < (m : Int) := by omega
                have hiD : i < DD.length := by rw [HM.out]; exact hlt3
                have hxm : DD[i] ∈ DD := List.getElem_mem hiD
                have HX : Hid (∀ W, SlW W (.slice aod m cd) DD → ∃ g, aod = some ⟨g, 0, none⟩ ∧ g < W.heap.size ∧ W.cell? ⟨g, i * 2, none⟩ = some (.int .i64 DD[i].1) ∧ W.cell? ⟨g, i * 2 + 1, none⟩ = some (.string DD[i].2)) := fun W h => h.at hiD
                have G := Lib.hid (HDD.out.1.gets HDD.out.2.1 HDD.out.2.2 hxm (HRG.out _ hxm))
                obtain ⟨g, hg, _, e0, e1⟩ := HX.out _ HV.out
                subst hg
                clear hxm e1
                generalize DD[i] = x at *
                clear hiD
                obtain ⟨x1, x2⟩ := x
                go_wp2_with fail
                refine G.out.mono ?_
                rintro e w9 ⟨rfl, hd9, hk9⟩
                have hv9 := Lib.hid (HV.out.stand HT.out hk9.out.1 hk9.out.2)
                obtain ⟨g', hg', _, f0, f1⟩ := HX.out _ hv9.out
                obtain rfl : g = g' := by simpa using hg'
                clear hg' e0
                go_wp2
                go_roundw
                case rel => exact ⟨i + 1, by omega, by go_num, hd9.out, hv9.out⟩
                case measure => simp [intOf]; omega
              · have hiz : ¬ (i : Int) < (m : Int) := by omega
                have HBE := Lib.hid HDD.out.1.bel
                go_wp2
                go_ret
                exact ⟨rfl, HBE.out⟩
end Go.Proofs.Ytjdgheokfhghfaa
/- The walk of CacheTells. -/
namespace Go.Proofs.Ytjdgheokfhghfaa
open Go.RowKit

set_option maxRecDepth 100000 in
set_option maxHeartbeats 4000000 in
theorem tells_any (a0 : Int) (v1 : Value) (L : List Act6) (w : World) (h0 : -9223372036854775808 ≤ a0 ∧ a0 ≤ 9223372036854775807) (hA : Acts6 w v1 L) :
    Calls Try.prog 4 #[.int .i64 a0, v1] w fun e w' => e = .returned (.bool true) ∧ Below w.heap.size w w' := by
  have HS := Lib.hid (shown_any w)
  obtain ⟨ao, cap, hv⟩ : ∃ ao cap, v1 = .slice ao L.length cap := by obtain ⟨_, _, ao, cap, hv, _⟩ := hA; exact ⟨ao, cap, hv⟩
  have hlen := hA.2.1
  have HA := Lib.hid hA
  have HV := Lib.hid hv
  obtain ⟨n, hn⟩ : ∃ n, L.length = n := ⟨_, rfl⟩
  have HN := Lib.hid hn
  rw [hn] at hlen hv
  subst hv
  clear hn hA
  by_cases hl : 200 < n
  · have hlz : (200 : Int) < (n : Int) := by omega
    clear hl h0
    go_enter Try.func4, Try.ntmps4
    go_wp2_with fail
    refine HS.out.mono ?_
    rintro e w1 ⟨rfl, hb⟩
    go_wp2
    go_ret
    exact ⟨rfl, hb.out⟩
  · have hlz : ¬ (200 : Int) < (n : Int) := by omega
    obtain ⟨q, hq, hqe⟩ := many_nat 0 a0
    have HP0 : Hid (∀ W, Calls Try.prog 12 #[.int .i64 a0, .int .i64 8] W fun e w' => e = .returned (.int .i64 (q : Int)) ∧ W = w') := fun W => by rw [← hqe]; exact pick_any a0 8 W h0 (by omega)
    have HNEW : Hid (∀ W, Below w.heap.size w W → Calls Try.prog 10 #[src0, .int .i64 (1 + (q : Int))] W fun e w' => ∃ p, e = .returned (.tuple #[.pointer (some ⟨p, 0, none⟩), .int .i64 0]) ∧ Hid (Home w w' p (CS.new (1 + q)))) := fun W hW => new_one q w W hW hq
    clear hqe h0 hl
    go_enter Try.func4, Try.ntmps4
    go_wp2_with fail
    refine HS.out.mono ?_
    rintro e w1 ⟨rfl, hb⟩
    go_wp2_with fail
    refine (HP0.out _).mono ?_
    rintro e w1' ⟨rfl, rfl⟩
    have G := Lib.hid (HNEW.out w1 hb.out)
    clear HNEW HP0 hb
    go_wp2_with fail
    refine G.out.mono ?_
    rintro e w2 ⟨p, rfl, c0⟩
    clear G
    have HST : Hid (Bd 0 (CS.new (1 + q)) ∧ Told [] (CS.new (1 + q)) ∧ (CS.new (1 + q)).most = 1 + q) := ⟨Bd.new _, Told.new _, rfl⟩
    generalize CS.new (1 + q) = C0 at *
    go_wp2_with fail
    go_loopw [9, 10, 11, 12, 13, 14, 15, 16] (fun lv iv _ _ _ _ _ _ wr => ∃ j : Nat, j ≤ n ∧ iv = .int .i64 (j : Int) ∧ Hid (∃ C put, TW w wr p C lv put ∧ Bd j C ∧ Told put C ∧ C.most = 1 + q ∧ put.length ≤ j)) (fun _ iv _ _ _ _ _ _ _ => n - (intOf iv).toNat)
    case atStart => exact ⟨0, Nat.zero_le _, rfl, C0, [], TW.start c0.out, HST.out.1, HST.out.2.1, HST.out.2.2, Nat.le_refl _⟩
    case round =>
      obtain ⟨j, hj, rfl, HI⟩ := hrel
      obtain ⟨C, put, hC⟩ := HI.out
      have HC := Lib.hid hC
      clear hC HI c0 HST
      by_cases hlt : j < n
      · have hkz : (j : Int) < (n : Int) := by omega
        have hkL : j < L.length := by rw [HN.out]; exact hlt
        obtain ⟨g, off, cap', hv', d0, d1, d2, d3⟩ := HA.out.cell HC.out.1.bel j hkL
        obtain ⟨rfl, hnl, rfl⟩ : ao = some ⟨g, off, none⟩ ∧ n = L.length ∧ cap = cap' := by simpa using hv'
        have HAO := Lib.hid (HA.out.1 L[j] (List.getElem_mem hkL))
        clear hv' hnl
        generalize L[j] = A at *
        have HP := pickA A HAO.out
        obtain ⟨X, hX, ⟨e0, e1, e2, e3⟩, hbx, hltx⟩ := act_new wr A
        have HX := Lib.hid hX
        have HBX := Lib.hid hbx
        have HTX := Lib.hid (HC.out.1.below hbx)
        have HDO := Lib.hid (HC.out.1.actA hbx hltx ⟨e0, e1, e2, e3⟩ (fun S hc => does_cch hc A HAO.out HC.out.2.1 (by omega)))
        clear hX hbx hltx
        obtain ⟨ao9, c9, hl9⟩ := own_shape HC.out.1.row
        have hpl := HC.out.2.2.2.2
        subst hl9
        by_cases h8 : A.q = 8
        · have HR : Hid (∃ C2 put2, TW w X p C2 (.slice ao9 put.length c9) put2 ∧ Bd (j + 1) C2 ∧ Told put2 C2 ∧ C2.most = 1 + q ∧ put2.length ≤ j + 1) := ⟨C, put, HTX.out, HC.out.2.1.more, HC.out.2.2.1, HC.out.2.2.2.1, by omega⟩
          rw [h8] at HP
          clear h8
          go_wp2_with fail
          rw [HX.out]
          refine (HP.out _).mono ?_
          rintro e w5 ⟨rfl, rfl⟩
          go_wp2
          go_roundw
          case rel => exact ⟨j + 1, by omega, by go_num, HR.out⟩
          case measure => simp [intOf]; omega
        · have n8 : (A.q == 8) = false := beq_eq_false_iff_ne.2 h8
          have HTOLD := Lib.hid (HC.out.2.2.1.does HC.out.1.ok A h8)
          have HBD := Lib.hid (HC.out.2.1.does A)
          have HMO : Hid ((C.does A).2.most = 1 + q) := by show _ = _; rw [does_most]; exact HC.out.2.2.2.1
          have HPA : Hid (putA put C A = if A.q = 9 then [] else if (A.q = 4 ∨ A.q = 5) ∧ (C.does A).1.2 = 0 then put ++ [(A.i, fl A.b)] else put) := rfl
          have HGT : Hid (¬ (A.q = 4 ∨ A.q = 5) → A.q ≠ 6 → A.q ≠ 7 → A.q ≠ 9 → (C.does A).1.2 = 0 → (C.does A).1.1 = lastW put A.i (told A.i)) := by
            intro h4 h6 h7 h9 he
            have e : C.does A = C.get A.i (told A.i) (toldE A.i) := by unfold CS.does; rw [if_neg h4, if_neg h6, if_neg h7, if_neg h8, if_neg h9]
            rw [e] at he ⊢
            exact (HC.out.2.2.1.get HC.out.1.ok A.i).2 he
          have hql := A.q_lt
          generalize C.does A = R at *
          obtain ⟨⟨rs, re⟩, R2⟩ := R
          generalize putA put C A = PA at *
          generalize hqq : A.q = q4 at *
          clear hqq h8 HC
          go_wp2_with fail
          rw [HX.out]
          refine (HP.out _).mono ?_
          rintro e w5 ⟨rfl, rfl⟩
          go_wp2_with fail
          refine HDO.out.mono ?_
          rintro e w6 ⟨rfl, ht6, f0, f1, f2, f3⟩
          clear HDO e0 e1 e2 e3
          go_wp2_with fail
          refine (HP.out _).mono ?_
          rintro e w7 ⟨rfl, rfl⟩
          by_cases h9 : q4 = 9
          · have HTO : Hid (Told [] R2) := by have := HTOLD.out; rw [HPA.out, if_pos h9] at this; exact this
            have HTS := Lib.hid ht6.out.empty
            subst h9
            have hnl : ¬ ((1 : Int) + (q : Int) < ((keys R2.L).length : Int)) := by rw [keys_len]; have h1 := HTS.out.ok.len; have h2 := HMO.out; omega
            have G := Lib.hid HTS.out.home.blocksB
            generalize hnn : (keys R2.L).length = nn at *
            have HNN := Lib.hid hnn
            clear hnn
            go_wp2_with fail
            refine G.out.mono ?_
            rintro e w8 ⟨u, rfl, hu, hb8⟩
            obtain ⟨au, cu, hue⟩ : ∃ ao c, u = .slice ao nn c := by obtain ⟨ao, c, h, _⟩ := hu.out; exact ⟨ao, c, by rw [h, HNN.out]⟩
            subst hue
            have HFIN : Hid (∃ C2 put2, TW w w8 p C2 (.slice none 0 0) put2 ∧ Bd (j + 1) C2 ∧ Told put2 C2 ∧ C2.most = 1 + q ∧ put2.length ≤ j + 1) := ⟨R2, [], HTS.out.below hb8.out, HBD.out, HTO.out, HMO.out, by simp⟩
            go_wp2
            go_roundw
            case rel => exact ⟨j + 1, by omega, by go_num, HFIN.out⟩
            case measure => simp [intOf]; omega
          · by_cases h45 : q4 = 4 ∨ q4 = 5
            · by_cases hre : re = 0
              · have HTO : Hid (Told (put ++ [(A.i, fl A.b)]) R2) := by have := HTOLD.out; rw [HPA.out, if_neg h9, if_pos ⟨h45, hre⟩] at this; exact this
                subst hre
                obtain ⟨i0, hi, hz0, hz1, hz2⟩ := info_parts Try.infoW
                have HZ2 := Lib.hid hz2
                clear hz2 h9
                have HAT := atA A HAO.out
                have HF : Hid (∀ W, Calls Try.prog 20 #[.int .u8 A.b] W fun e w' => e = .returned (.string (fl A.b)) ∧ Hid (Below W.heap.size W w')) := fun W => full_any A.b W
                have hbl : wr.heap.size < w6.heap.size := by have := World.block_lt_of_cell? _ _ f0; exact this
                have HW6 : Hid (w.heap.size ≤ w6.heap.size) := ht6.out.bel.size
                have HFX : Hid (HeldX wr.heap.size A w6) := ⟨f0, f1, f2, f3⟩
                generalize hai : A.i = ai at *
                generalize hfa : fl A.b = fa at *
                clear hai hfa
                rcases h45 with rfl | rfl
                all_goals
                  go_wp2_with fail
                  go_region_law (first
                    | (refine step_append_where rfl (.tmp 105) (.tmp 112) 45 rfl w.heap.size 50 i0 (.agg #[.int .i64 0, .string ⟨#[]⟩]) 2 24 Try.underlying45 hi hz0 hz1 HZ2.out rfl (by omega) (.slice ao9 put.length c9) put.length (flatI put) (by kernel_rfl) ?own ⟨w9.heap.size, 0, none⟩ 1 1 [.int .i64 ai, .string fa] (by kernel_rfl) rfl (two_cells rfl) two_one (by unfold maxLen; omega) (by omega) ?base ?_
                       case own => exact ((ht6.out.below hb9.out).below ((Below.refl _ _).alloc (Nat.le_refl _) _)).row
                       case base => have := HW6.out; have := hb9.out.size; simp; omega
                       intro v1 w10 hown hgrow hwh
                       have HTS := Lib.hid (((ht6.out.below hb9.out).below ((Below.refl _ _).alloc (Nat.le_refl _) _)).push hown hgrow hwh)
                       obtain ⟨ao10, c10, hv10⟩ := own_shape hown
                       subst hv10
                       clear hown hgrow hwh)
                    | (go_simp; go_at_call 19; refine (HAT.out _).mono ?_; rintro e w8 ⟨rfl, hb'⟩; have hb8 : Hid (Below w6.heap.size w6 w8) := below_pd hb'.out; obtain ⟨g0, g1, g2, g3⟩ := HFX.out.below hb8.out hbl; clear hb')
                    | (go_simp; go_at_call 20; refine (HF.out _).mono ?_; rintro e w9 ⟨rfl, hb'⟩; have hb9 : Hid (Below w6.heap.size w6 w9) := hb8.out.trans (hb'.out.mono hb8.out.size); clear hb'))
                  all_goals
                    have hnl : ¬ ((1 : Int) + (q : Int) < ((keys R2.L).length : Int)) := by rw [keys_len]; have h1 := HTS.out.ok.len; have h2 := HMO.out; omega
                    have G := Lib.hid HTS.out.home.blocksB
                    generalize hnn : (keys R2.L).length = nn at *
                    have HNN := Lib.hid hnn
                    clear hnn
                    go_wp2_with fail
                    refine G.out.mono ?_
                    rintro e w11 ⟨u, rfl, hu, hb11⟩
                    obtain ⟨au, cu, hue⟩ : ∃ ao c, u = .slice ao nn c := by obtain ⟨ao, c, h, _⟩ := hu.out; exact ⟨ao, c, by rw [h, HNN.out]⟩
                    subst hue
                    have HFIN : Hid (∃ C2 put2, TW w w11 p C2 (.slice ao10 (put.length + 1) c10) put2 ∧ Bd (j + 1) C2 ∧ Told put2 C2 ∧ C2.most = 1 + q ∧ put2.length ≤ j + 1) := ⟨R2, put ++ [(ai, fa)], HTS.out.below hb11.out, HBD.out, HTO.out, HMO.out, by simp; omega⟩
                    go_wp2
                    go_roundw
                    case rel => exact ⟨j + 1, by omega, by go_num, HFIN.out⟩
                    case measure => simp [intOf]; omega
              · have HTO : Hid (Told put R2) := by have := HTOLD.out; rw [HPA.out, if_neg h9, if_neg (fun hh => hre hh.2)] at this; exact this
                have hre' : (re == 0) = false := beq_eq_false_iff_ne.2 hre
                have HTS := ht6
                clear hre h9
                rcases h45 with rfl | rfl
                · have hnl : ¬ ((1 : Int) + (q : Int) < ((keys R2.L).length : Int)) := by rw [keys_len]; have h1 := HTS.out.ok.len; have h2 := HMO.out; omega
                  have G := Lib.hid HTS.out.home.blocksB
                  generalize hnn : (keys R2.L).length = nn at *
                  have HNN := Lib.hid hnn
                  clear hnn
                  go_wp2_with fail
                  refine G.out.mono ?_
                  rintro e w8 ⟨u, rfl, hu, hb8⟩
                  obtain ⟨au, cu, hue⟩ : ∃ ao c, u = .slice ao nn c := by obtain ⟨ao, c, h, _⟩ := hu.out; exact ⟨ao, c, by rw [h, HNN.out]⟩
                  subst hue
                  have HFIN : Hid (∃ C2 put2, TW w w8 p C2 (.slice ao9 put.length c9) put2 ∧ Bd (j + 1) C2 ∧ Told put2 C2 ∧ C2.most = 1 + q ∧ put2.length ≤ j + 1) := ⟨R2, put, HTS.out.below hb8.out, HBD.out, HTO.out, HMO.out, by omega⟩
                  go_wp2
                  go_roundw
                  case rel => exact ⟨j + 1, by omega, by go_num, HFIN.out⟩
                  case measure => simp [intOf]; omega
                · have hnl : ¬ ((1 : Int) + (q : Int) < ((keys R2.L).length : Int)) := by rw [keys_len]; have h1 := HTS.out.ok.len; have h2 := HMO.out; omega
                  have G := Lib.hid HTS.out.home.blocksB
                  generalize hnn : (keys R2.L).length = nn at *
                  have HNN := Lib.hid hnn
                  clear hnn
                  go_wp2_with fail
                  refine G.out.mono ?_
                  rintro e w8 ⟨u, rfl, hu, hb8⟩
                  obtain ⟨au, cu, hue⟩ : ∃ ao c, u = .slice ao nn c := by obtain ⟨ao, c, h, _⟩ := hu.out; exact ⟨ao, c, by rw [h, HNN.out]⟩
                  subst hue
                  have HFIN : Hid (∃ C2 put2, TW w w8 p C2 (.slice ao9 put.length c9) put2 ∧ Bd (j + 1) C2 ∧ Told put2 C2 ∧ C2.most = 1 + q ∧ put2.length ≤ j + 1) := ⟨R2, put, HTS.out.below hb8.out, HBD.out, HTO.out, HMO.out, by omega⟩
                  go_wp2
                  go_roundw
                  case rel => exact ⟨j + 1, by omega, by go_num, HFIN.out⟩
                  case measure => simp [intOf]; omega
            · have HTO : Hid (Told put R2) := by have := HTOLD.out; rw [HPA.out, if_neg h9, if_neg (fun hh => h45 hh.1)] at this; exact this
              have HTS := ht6
              by_cases h67 : q4 = 6 ∨ q4 = 7
              · rcases h67 with rfl | rfl
                · have hnl : ¬ ((1 : Int) + (q : Int) < ((keys R2.L).length : Int)) := by rw [keys_len]; have h1 := HTS.out.ok.len; have h2 := HMO.out; omega
                  have G := Lib.hid HTS.out.home.blocksB
                  generalize hnn : (keys R2.L).length = nn at *
                  have HNN := Lib.hid hnn
                  clear hnn
                  go_wp2_with fail
                  refine G.out.mono ?_
                  rintro e w8 ⟨u, rfl, hu, hb8⟩
                  obtain ⟨au, cu, hue⟩ : ∃ ao c, u = .slice ao nn c := by obtain ⟨ao, c, h, _⟩ := hu.out; exact ⟨ao, c, by rw [h, HNN.out]⟩
                  subst hue
                  have HFIN : Hid (∃ C2 put2, TW w w8 p C2 (.slice ao9 put.length c9) put2 ∧ Bd (j + 1) C2 ∧ Told put2 C2 ∧ C2.most = 1 + q ∧ put2.length ≤ j + 1) := ⟨R2, put, HTS.out.below hb8.out, HBD.out, HTO.out, HMO.out, by omega⟩
                  go_wp2
                  go_roundw
                  case rel => exact ⟨j + 1, by omega, by go_num, HFIN.out⟩
                  case measure => simp [intOf]; omega
                · have hnl : ¬ ((1 : Int) + (q : Int) < ((keys R2.L).length : Int)) := by rw [keys_len]; have h1 := HTS.out.ok.len; have h2 := HMO.out; omega
                  have G := Lib.hid HTS.out.home.blocksB
                  generalize hnn : (keys R2.L).length = nn at *
                  have HNN := Lib.hid hnn
                  clear hnn
                  go_wp2_with fail
                  refine G.out.mono ?_
                  rintro e w8 ⟨u, rfl, hu, hb8⟩
                  obtain ⟨au, cu, hue⟩ : ∃ ao c, u = .slice ao nn c := by obtain ⟨ao, c, h, _⟩ := hu.out; exact ⟨ao, c, by rw [h, HNN.out]⟩
                  subst hue
                  have HFIN : Hid (∃ C2 put2, TW w w8 p C2 (.slice ao9 put.length c9) put2 ∧ Bd (j + 1) C2 ∧ Told put2 C2 ∧ C2.most = 1 + q ∧ put2.length ≤ j + 1) := ⟨R2, put, HTS.out.below hb8.out, HBD.out, HTO.out, HMO.out, by omega⟩
                  go_wp2
                  go_roundw
                  case rel => exact ⟨j + 1, by omega, by go_num, HFIN.out⟩
                  case measure => simp [intOf]; omega
              · have n4 : (q4 == 4) = false := by simp; omega
                have n5 : (q4 == 5) = false := by simp; omega
                have n6 : (q4 == 6) = false := by simp; omega
                have n7 : (q4 == 7) = false := by simp; omega
                have n9 : (q4 == 9) = false := by simp; omega
                have HGT2 : Hid (re = 0 → rs = lastW put A.i (told A.i)) := HGT.out h45 (fun e => h67 (.inl e)) (fun e => h67 (.inr e)) h9
                clear HGT HTOLD HPA h45 h67 h9
                have HAT := atA A HAO.out
                have hbl : wr.heap.size < w6.heap.size := by have := World.block_lt_of_cell? _ _ f0; exact this
                have HFX : Hid (HeldX wr.heap.size A w6) := ⟨f0, f1, f2, f3⟩
                generalize A.i = ai at *
                go_wp2_with fail
                refine (HAT.out _).mono ?_
                rintro e w8 ⟨rfl, hb8⟩
                have HRD := Lib.hid (read_any ai w8 (.agg #[]) rfl)
                go_wp2_with fail
                refine HRD.out.mono ?_
                rintro e w9 ⟨rfl, hb9⟩
                have HB9 : Hid (Below w6.heap.size w6 w9) := hb8.out.trans (hb9.mono hb8.out.size)
                clear hb9 HRD hb8
                obtain ⟨LW, lw0, lwe, lws⟩ := lastW_take put ai (told ai)
                have HL := Lib.hid lws
                rw [← lwe] at HGT2
                clear lws lwe
                generalize told ai = tw at *
                subst lw0
                generalize toldE ai = te at *
                obtain ⟨mp, hmp⟩ : ∃ m, put.length = m := ⟨_, rfl⟩
                have HMP := Lib.hid hmp
                rw [hmp] at hpl HGT2 HTS ⊢
                have HTS0 : Hid (∀ W, Below w6.heap.size w6 W → TW w W p R2 (.slice ao9 mp c9) put) := fun W hW => HTS.out.below hW
                clear hmp HTS f0 f1 f2 f3
                obtain ⟨bx, hbx⟩ : ∃ b, wr.heap.size = b := ⟨_, rfl⟩
                rw [hbx] at hbl HFX ⊢
                clear hbx
                go_wp2_with fail
                go_loopw [14, 16] (fun wv kv wr2 => ∃ k : Nat, k ≤ mp ∧ kv = .int .i64 (k : Int) ∧ wv = .string (LW k) ∧ Hid (Below w6.heap.size w6 wr2)) (fun _ kv _ => mp - (intOf kv).toNat)
                case atStart => exact ⟨0, Nat.zero_le _, rfl, rfl, HB9.out⟩
                case round =>
                  obtain ⟨k, hk, rfl, rfl, HB⟩ := hrel
                  by_cases hlt2 : k < mp
                  · have hkz2 : (k : Int) < (mp : Int) := by omega
                    have hkP : k < put.length := by rw [HMP.out]; exact hlt2
                    obtain ⟨gp, rfl, hgpl, p0, p1⟩ := (HTS0.out _ HB.out).row.sl.at hkP
                    have HX1 : Hid (LW (k + 1) = if put[k].1 = ai then put[k].2 else LW k) := HL.out k hkP
                    clear HTS0
                    generalize put[k] = x at *
                    clear hkP
                    obtain ⟨x1, x2⟩ := x
                    simp only at p0 p1 HX1
                    have HK : Hid (∀ W, Below wr.heap.size wr W → W.cell? ⟨gp, k * 2, none⟩ = some (.int .i64 x1) ∧ W.cell? ⟨bx, 0, none⟩ = some (.int .i64 A.op) ∧ W.cell? ⟨bx, 1, none⟩ = some (.int .i64 A.at_) ∧ W.cell? ⟨bx, 2, none⟩ = some (.int .u8 A.b) ∧ W.cell? ⟨bx, 3, none⟩ = some (.bool A.bad)) := fun W hW => ⟨(hW.cell (p := ⟨gp, k * 2, none⟩) hgpl).trans p0, (HFX.out.below HB.out hbl).below hW (Nat.lt_of_lt_of_le hbl HB.out.size)⟩
                    have HK1 : Hid (∀ W, Below wr.heap.size wr W → W.cell? ⟨gp, k * 2 + 1, none⟩ = some (.string x2)) := fun W hW => (hW.cell (p := ⟨gp, k * 2 + 1, none⟩) hgpl).trans p1
                    obtain ⟨p0, g0, g1, g2, g3⟩ := HK.out _ (Below.refl _ _)
                    clear p1
                    by_cases he : x1 = ai
                    · have hxe : (x1 == ai) = true := by simp [he]
                      have HXE : Hid (LW (k + 1) = x2) := by show _ = _; rw [HX1.out, if_pos he]
                      clear he HX1
                      go_wp2_with fail
                      go_region_held3 (fun W : World => W.cell? ⟨gp, k * 2, none⟩ = some (.int .i64 x1) ∧ W.cell? ⟨bx, 0, none⟩ = some (.int .i64 A.op) ∧ W.cell? ⟨bx, 1, none⟩ = some (.int .i64 A.at_) ∧ W.cell? ⟨bx, 2, none⟩ = some (.int .u8 A.b) ∧ W.cell? ⟨bx, 3, none⟩ = some (.bool A.bad))
                        (first | exact ⟨p0, g0, g1, g2, g3⟩ | assumption)
                        (first | (go_at_call 19; refine (HAT.out _).mono ?_; rintro e w10 ⟨rfl, hb'⟩; have hb10 : Hid (Below wr.heap.size wr w10) := below_pd hb'.out; have hh10 := HK.out _ hb10.out; clear hb'))
                      have p1 := HK1.out _ hb10.out
                      go_wp2
                      go_roundw
                      case rel => exact ⟨k + 1, by omega, by go_num, by rw [HXE.out], (show Below _ _ _ from HB.out.trans (hb10.out.mono HB.out.size))⟩
                      case measure => simp [intOf]; omega
                    · have hxe : (x1 == ai) = false := beq_eq_false_iff_ne.2 he
                      have HXE : Hid (LW (k + 1) = LW k) := by show _ = _; rw [HX1.out, if_neg he]
                      clear he HX1
                      go_wp2_with fail
                      go_region_held3 (fun W : World => W.cell? ⟨gp, k * 2, none⟩ = some (.int .i64 x1) ∧ W.cell? ⟨bx, 0, none⟩ = some (.int .i64 A.op) ∧ W.cell? ⟨bx, 1, none⟩ = some (.int .i64 A.at_) ∧ W.cell? ⟨bx, 2, none⟩ = some (.int .u8 A.b) ∧ W.cell? ⟨bx, 3, none⟩ = some (.bool A.bad))
                        (first | exact ⟨p0, g0, g1, g2, g3⟩ | assumption)
                        (first | (go_at_call 19; refine (HAT.out _).mono ?_; rintro e w10 ⟨rfl, hb'⟩; have hb10 : Hid (Below wr.heap.size wr w10) := below_pd hb'.out; have hh10 := HK.out _ hb10.out; clear hb'))
                      go_wp2
                      go_roundw
                      case rel => exact ⟨k + 1, by omega, by go_num, by rw [HXE.out], (show Below _ _ _ from HB.out.trans (hb10.out.mono HB.out.size))⟩
                      case measure => simp [intOf]; omega
                  · obtain rfl : k = mp := by omega
                    have hkz2 : ¬ (k : Int) < (k : Int) := by omega
                    have HTS2 := Lib.hid (HTS0.out _ HB.out)
                    have hnl : ¬ ((1 : Int) + (q : Int) < ((keys R2.L).length : Int)) := by rw [keys_len]; have h1 := HTS2.out.ok.len; have h2 := HMO.out; omega
                    have G := Lib.hid HTS2.out.home.blocksB
                    clear HTS0 HB HL
                    generalize hnn : (keys R2.L).length = nn at *
                    have HNN := Lib.hid hnn
                    clear hnn
                    by_cases hre : re = 0
                    · have hrs := HGT2.out hre
                      subst hre
                      clear HGT2
                      rw [← hrs]
                      clear hrs
                      go_wp2_with fail
                      refine G.out.mono ?_
                      rintro e w11 ⟨u, rfl, hu, hb8⟩
                      obtain ⟨au, cu, hue⟩ : ∃ ao c, u = .slice ao nn c := by obtain ⟨ao, c, h, _⟩ := hu.out; exact ⟨ao, c, by rw [h, HNN.out]⟩
                      subst hue
                      have HFIN : Hid (∃ C2 put2, TW w w11 p C2 (.slice ao9 k c9) put2 ∧ Bd (j + 1) C2 ∧ Told put2 C2 ∧ C2.most = 1 + q ∧ put2.length ≤ j + 1) := ⟨R2, put, HTS2.out.below hb8.out, HBD.out, HTO.out, HMO.out, by rw [HMP.out]; omega⟩
                      go_wp2
                      go_roundw
                      case rel => exact ⟨j + 1, by omega, by go_num, HFIN.out⟩
                      case measure => simp [intOf]; omega
                    · have hre' : (re == 0) = false := beq_eq_false_iff_ne.2 hre
                      clear HGT2 hre
                      go_wp2_with fail
                      refine G.out.mono ?_
                      rintro e w11 ⟨u, rfl, hu, hb8⟩
                      obtain ⟨au, cu, hue⟩ : ∃ ao c, u = .slice ao nn c := by obtain ⟨ao, c, h, _⟩ := hu.out; exact ⟨ao, c, by rw [h, HNN.out]⟩
                      subst hue
                      have HFIN : Hid (∃ C2 put2, TW w w11 p C2 (.slice ao9 k c9) put2 ∧ Bd (j + 1) C2 ∧ Told put2 C2 ∧ C2.most = 1 + q ∧ put2.length ≤ j + 1) := ⟨R2, put, HTS2.out.below hb8.out, HBD.out, HTO.out, HMO.out, by rw [HMP.out]; omega⟩
                      go_wp2
                      go_roundw
                      case rel => exact ⟨j + 1, by omega, by go_num, HFIN.out⟩
                      case measure => simp [intOf]; omega
      · have hkz : ¬ (j : Int) < (n : Int) := by omega
        obtain ⟨ao9, c9, hl9⟩ := own_shape HC.out.1.row
        have HMD : Hid (∀ x ∈ put, ∃ y ∈ C.dirty, y.1 = x.1) := HC.out.2.2.1.dirty
        have hpl : put.length ≤ 200 := by have := HC.out.2.2.2.2; omega
        have hdl : C.dirty.length ≤ 5000 := by
          have h1 := C.dirty_perm.length_eq
          have h2 := dls_len C.L
          have := HC.out.1.ok.len; have := HC.out.1.ok.m1; omega
        have G := Lib.hid HC.out.1.dirty
        have HP := Lib.hid HC.out.1.row.sl
        have HBW := Lib.hid HC.out.1.bel
        subst hl9
        clear HC HA
        go_wp2_with fail
        refine G.out.mono ?_
        rintro e w4 ⟨v, rfl, hv, hb4⟩
        have HP4 := Lib.hid (HP.out.below hb4.out)
        have HB4 : Hid (Below w.heap.size w w4) := HBW.out.trans (hb4.out.mono HBW.out.size)
        obtain ⟨aod, cd, hvd⟩ : ∃ ao c, v = .slice ao C.dirty.length c := by obtain ⟨ao, c, h, _⟩ := hv.out; exact ⟨ao, c, h⟩
        clear G HP hb4 HBW
        generalize C.dirty = DD at *
        obtain ⟨m, hm⟩ : ∃ m, DD.length = m := ⟨_, rfl⟩
        obtain ⟨mp, hmp⟩ : ∃ m, put.length = m := ⟨_, rfl⟩
        have HM := Lib.hid hm; have HMP := Lib.hid hmp
        rw [hm] at hvd hdl
        subst hvd
        rw [hmp] at HP4 hpl ⊢
        clear hm hmp
        go_wp2_with fail
        go_loopw [18, 19, 20] (fun kv _ _ wr => ∃ k : Nat, k ≤ mp ∧ kv = .int .i64 (k : Int) ∧ Hid (Below w4.heap.size w4 wr)) (fun kv _ _ _ => mp - (intOf kv).toNat)
        case atStart => exact ⟨0, Nat.zero_le _, rfl, (show Below _ _ _ from Below.refl _ _)⟩
        case round =>
          obtain ⟨k, hk, rfl, HB⟩ := hrel
          by_cases hlt2 : k < mp
          · have hkz2 : (k : Int) < (mp : Int) := by omega
            have hkP : k < put.length := by rw [HMP.out]; exact hlt2
            obtain ⟨y, hy, hyk⟩ := HMD.out _ (List.getElem_mem hkP)
            obtain ⟨t, ht, rfl⟩ := List.getElem_of_mem hy
            have HT : Hid (∃ (t : Nat) (ht : t < DD.length), DD[t].1 = put[k].1) := ⟨t, ht, hyk⟩
            obtain ⟨gp, rfl, hgpl, p0, p1⟩ := HP4.out.at hkP
            have HE : Hid (∀ W, Below w4.heap.size w4 W → W.cell? ⟨gp, k * 2, none⟩ = some (.int .i64 put[k].1)) := fun W hW => (hW.cell (p := ⟨gp, k * 2, none⟩) hgpl).trans p0
            clear p0 p1 hy hyk
            generalize put[k].1 = x at *
            clear hkP
            go_wp2_with fail
            go_loopw [19, 20] (fun bv iv wr => ∃ (i : Nat) (bb : Bool), i ≤ m ∧ bv = .bool bb ∧ iv = .int .i64 (i : Int) ∧ Hid (bb = false → ∀ t (ht : t < DD.length), t < i → DD[t].1 ≠ x) ∧ Hid (Below w4.heap.size w4 wr)) (fun _ iv _ => m - (intOf iv).toNat)
            case atStart => exact ⟨0, false, Nat.zero_le _, rfl, rfl, (show _ → _ from fun _ t _ h => absurd h (Nat.not_lt_zero _)), HB.out⟩
            case round =>
              clear HB
              obtain ⟨i, bb, hi, rfl, rfl, HF, HB⟩ := hrel
              by_cases hlt3 : i < m
              · have hiz : (i : Int) < (m : Int) := by omega
                have hiD : i < DD.length := by rw [HM.out]; exact hlt3
                obtain ⟨gd, rfl, hgdl, q0, q1⟩ := (hv.out.below HB.out).at hiD
                clear q1
                have p0 := HE.out _ HB.out
                cases bb
                · by_cases he : DD[i].1 = x
                  · rw [he] at q0
                    have hxx : (x == x) = true := by simp
                    clear he hiD
                    go_wp2
                    go_quiet (fail)
                    go_wp2
                    go_roundw
                    case rel => exact ⟨i + 1, true, by omega, rfl, by go_num, (show _ → _ from fun e => by cases e), (show Below _ _ _ from HB.out.trans (below_drewN (Below.refl _ _) _))⟩
                    case measure => simp [intOf]; omega
                  · have hne : (DD[i].1 == x) = false := beq_eq_false_iff_ne.2 he
                    have HF2 : Hid (∀ t (ht : t < DD.length), t < i + 1 → DD[t].1 ≠ x) := by
                      intro t ht hti
                      by_cases e : t = i
                      · subst e; exact he
                      · exact HF.out rfl t ht (by omega)
                    clear he
                    generalize DD[i].1 = z at *
                    clear hiD
                    go_wp2
                    go_quiet (fail)
                    go_wp2
                    go_roundw
                    case rel => exact ⟨i + 1, false, by omega, rfl, by go_num, (show _ → _ from fun _ => HF2.out), (show Below _ _ _ from HB.out.trans (below_drewN (Below.refl _ _) _))⟩
                    case measure => simp [intOf]; omega
                · clear q0 p0
                  go_wp2
                  go_quiet (fail)
                  go_wp2
                  go_roundw
                  case rel => exact ⟨i + 1, true, by omega, rfl, by go_num, (show _ → _ from fun e => by cases e), (show Below _ _ _ from HB.out.trans (below_drewN (Below.refl _ _) _))⟩
                  case measure => simp [intOf]; omega
              · obtain rfl : i = m := by omega
                have hiz : ¬ (i : Int) < (i : Int) := by omega
                cases bb
                · exfalso
                  obtain ⟨t, ht, e⟩ := HT.out
                  exact HF.out rfl t ht (by rw [← HM.out]; exact ht) e
                · go_wp2
                  go_roundw
                  case rel => exact ⟨k + 1, by omega, by go_num, HB.out⟩
                  case measure => simp [intOf]; omega
          · have hkz2 : ¬ (k : Int) < (mp : Int) := by omega
            have HBE : Hid (Below w.heap.size w wr) := HB4.out.trans (HB.out.mono HB4.out.size)
            go_wp2
            go_ret
            exact ⟨rfl, HBE.out⟩
end Go.Proofs.Ytjdgheokfhghfaa

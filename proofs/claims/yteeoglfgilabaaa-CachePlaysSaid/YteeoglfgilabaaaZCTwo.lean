/- Two caches side by side, and blocks that stand by. -/
import Derived.Test.YteeoglfgilabaaaZCSteps
import Derived.Test.YteeoglfgilabaaaZCDirty
import Derived.Deep.RegionLaw

namespace Go.Proofs.Yteeoglfgilabaaa
open Go.RowKit

section
variable {S : Nat → Prop} {w w' : World} {p : Nat} {src : Value} {C : CS} {N : Nat}
theorem does_cch (h : Cch S w p src0 C) (a : Act6) (ha : a.Ok) (hb : Bd N C) (hN : N < 1000000) :
    Calls Try.prog 13 #[.pointer (some ⟨p, 0, none⟩), .agg #[.int .i64 a.op, .int .i64 a.at_, .int .u8 a.b, .bool a.bad]] w fun e w' => e = .returned (.tuple #[.string (C.does a).1.1, .int .i64 (C.does a).1.2]) ∧ CLeaves S w w' p src0 (C.does a).2 := by
  have hq := a.q_lt
  have hp : ∀ x ∈ C.L, x.pins < 1000000 := fun x hx => by have := hb.pn x hx; omega
  have hm : C.misses < 1000000 := by have := hb.ms; omega
  unfold CS.does
  by_cases q4 : a.q = 4 ∨ a.q = 5
  · rw [if_pos q4]; exact does_put a ha q4 h
  · rw [if_neg q4]
    by_cases q6 : a.q = 6
    · rw [if_pos q6]; exact does_pin a ha q6 h hp
    · rw [if_neg q6]
      by_cases q7 : a.q = 7
      · rw [if_pos q7]; exact does_unpin a ha q7 h
      · rw [if_neg q7]
        by_cases q8 : a.q = 8
        · rw [if_pos q8]; exact does_clean a ha q8 h
        · rw [if_neg q8]
          by_cases q9 : a.q = 9
          · rw [if_pos q9]; exact does_drop a ha q9 h
          · rw [if_neg q9]
            refine does_get a ha (by omega) _ _ (fun w' => CLeaves S w w' p src0 (C.get a.i (told a.i) (toldE a.i)).2) fun W hW => ?_
            exact (get_any a.i ha.i (h.below hW) hm).mono fun e w' ⟨he, hl⟩ => ⟨he, hl.after (Only.of_below _ hW (Nat.le_refl _))⟩
end

/-! What Drop and Clean leave, in plain lists. -/
section
variable {C : CS}
theorem drop_dirty (C : CS) : C.drop.dirty = [] := by
  have : dls C.drop.L = [] := by
    unfold dls CS.drop
    simp only [List.filter_filter]
    rw [show (fun a : Kp => a.dirty && !a.dirty) = fun _ => false from funext fun a => by cases a.dirty <;> rfl]
    simp
  unfold CS.dirty
  rw [this]; rfl
theorem clean_dirty (C : CS) : C.clean.dirty = [] := by
  have : dls C.clean.L = [] := by
    unfold dls CS.clean
    rw [List.map_eq_nil_iff, List.filter_eq_nil_iff]
    intro x hx
    obtain ⟨y, _, rfl⟩ := List.mem_map.1 hx
    simp
  unfold CS.dirty
  rw [this]; rfl
theorem dirty_mem {x : Wr} (h : x ∈ C.dirty) : ∃ y ∈ C.L, y.dirty = true ∧ x = (y.key, y.data) := dls_mem (C.dirty_perm.subset h)
theorem dirty_gone (ok : C.Ok) {x : Wr} (h : x ∈ C.dirty) : x.1 ∉ keys C.drop.L := by
  obtain ⟨y, hy, hd, rfl⟩ := dirty_mem h
  intro hm
  obtain ⟨z, hz, he⟩ := List.mem_map.1 hm
  obtain ⟨hz1, hz2⟩ := List.mem_filter.1 hz
  have := key_is ok.nodup hz1 hy he
  subst this
  rw [hd] at hz2; cases hz2
theorem dirty_there {x : Wr} (h : x ∈ C.dirty) : x.1 ∈ keys C.clean.L := by
  obtain ⟨y, hy, hd, rfl⟩ := dirty_mem h
  exact List.mem_map.2 ⟨_, List.mem_map.2 ⟨y, hy, rfl⟩, rfl⟩
/-- All of M is kept, with these data. -/
def Tells (M : List Wr) (C : CS) : Prop := ∀ x ∈ M, ∃ y ∈ C.L, y.key = x.1 ∧ y.data = x.2
theorem tells_clean (C : CS) : Tells C.dirty C.clean := by
  intro x hx
  obtain ⟨y, hy, hd, rfl⟩ := dirty_mem hx
  exact ⟨_, List.mem_map.2 ⟨y, hy, rfl⟩, rfl, rfl⟩
theorem Tells.get {M : List Wr} (h : Tells M C) (ok : C.Ok) {x : Wr} (hx : x ∈ M) (t : ByteArray) (e : Int) : ∃ k y, fx C.L x.1 = some (k, y) ∧ C.get x.1 t e = ((x.2, 0), { C with L := y :: C.L.eraseIdx k }) ∧ Tells M { C with L := y :: C.L.eraseIdx k } := by
  obtain ⟨y, hy, h1, h2⟩ := h x hx
  obtain ⟨k, hk, rfl⟩ := List.getElem_of_mem hy
  have hf := fx_of ok.nodup hk
  rw [h1] at hf
  refine ⟨k, C.L[k], hf, ?_, fun z hz => ?_⟩
  · unfold CS.get; rw [hf]; simp only [h2]
  · obtain ⟨u, hu, h3⟩ := h z hz
    exact ⟨u, (perm_front hk).symm.subset hu, h3⟩
end
/-- Caches at p1 and p2, apart; the blocks of T are neither's. -/
structure Two (T : Nat → Prop) (w0 w : World) (p1 p2 : Nat) (C1 C2 : CS) : Prop where
  ex : ∃ S1 S2 : Nat → Prop, (∀ k, S1 k → w0.heap.size ≤ k) ∧ (∀ k, S2 k → w0.heap.size ≤ k) ∧ (∀ k, S1 k → ¬ S2 k) ∧ (∀ k, T k → ¬ S1 k ∧ ¬ S2 k) ∧ Cch S1 w p1 src0 C1 ∧ Cch S2 w p2 src0 C2
  lt : ∀ k, T k → k < w.heap.size
  bel : Below w0.heap.size w0 w
section
variable {T T' : Nat → Prop} {w0 w w' : World} {p1 p2 : Nat} {C1 C2 C' : CS}
theorem Two.swap (h : Two T w0 w p1 p2 C1 C2) : Two T w0 w p2 p1 C2 C1 := by
  obtain ⟨S1, S2, h1, h2, h3, h4, h5, h6⟩ := h.ex
  exact ⟨⟨S2, S1, h2, h1, fun k a b => h3 k b a, fun k hk => ⟨(h4 k hk).2, (h4 k hk).1⟩, h6, h5⟩, h.lt, h.bel⟩
theorem Two.below (h : Two T w0 w p1 p2 C1 C2) (hb : Below w.heap.size w w') : Two T w0 w' p1 p2 C1 C2 := by
  obtain ⟨S1, S2, h1, h2, h3, h4, h5, h6⟩ := h.ex
  exact ⟨⟨S1, S2, h1, h2, h3, h4, h5.below hb, h6.below hb⟩, fun k hk => Nat.lt_of_lt_of_le (h.lt k hk) hb.size, h.bel.trans (hb.mono h.bel.size)⟩
/-- Blocks that are new stand by from here on. -/
theorem Two.keep (h : Two T w0 w p1 p2 C1 C2) (hb : Below w.heap.size w w') (hT : ∀ k, T' k → w.heap.size ≤ k ∧ k < w'.heap.size) : Two T' w0 w' p1 p2 C1 C2 := by
  obtain ⟨S1, S2, h1, h2, h3, h4, h5, h6⟩ := h.ex
  exact ⟨⟨S1, S2, h1, h2, h3, fun k hk => ⟨fun hs => by have := h5.lt k hs; have := (hT k hk).1; omega, fun hs => by have := h6.lt k hs; have := (hT k hk).1; omega⟩, h5.below hb, h6.below hb⟩, fun k hk => (hT k hk).2, h.bel.trans (hb.mono h.bel.size)⟩
theorem Two.left (h : Two T w0 w p1 p2 C1 C2) {f : FuncId} {args : Array Value} {v : Value} (hc : ∀ S, Cch S w p1 src0 C1 → Calls Try.prog f args w fun e w' => e = .returned v ∧ CLeaves S w w' p1 src0 C') :
    Calls Try.prog f args w fun e w' => e = .returned v ∧ Hid (Two T w0 w' p1 p2 C' C2) ∧ Hid (w.heap.size ≤ w'.heap.size ∧ ∀ k, T k → w'.heap[k]? = w.heap[k]?) := by
  obtain ⟨S1, S2, h1, h2, h3, h4, h5, h6⟩ := h.ex
  refine (hc S1 h5).mono fun e w' ⟨he, S', i1, i2, i3⟩ => ⟨he, ⟨⟨S', S2, fun k hk => ?_, h2, fun k hk hs => ?_, fun k hk => ⟨fun hs => ?_, (h4 k hk).2⟩, i2, h6.kept i3 (fun k hk hs => h3 k hs hk)⟩, fun k hk => Nat.lt_of_lt_of_le (h.lt k hk) i3.size, h.bel.trans (i3.below h.bel.size (fun k _ hk => h1 k hk))⟩, i3.size, fun k hk => i3.block k (h.lt k hk) (h4 k hk).1⟩
  · rcases i1 k hk with e | e
    · exact h1 k e
    · exact Nat.le_trans h.bel.size e
  · rcases i1 k hk with e | e
    · exact h3 k e hs
    · have := h6.lt k hs; omega
  · rcases i1 k hs with e | e
    · exact (h4 k hk).1 e
    · have := h.lt k hk; omega
theorem Two.right (h : Two T w0 w p1 p2 C1 C2) {f : FuncId} {args : Array Value} {v : Value} (hc : ∀ S, Cch S w p2 src0 C2 → Calls Try.prog f args w fun e w' => e = .returned v ∧ CLeaves S w w' p2 src0 C') :
    Calls Try.prog f args w fun e w' => e = .returned v ∧ Hid (Two T w0 w' p1 p2 C1 C') ∧ Hid (w.heap.size ≤ w'.heap.size ∧ ∀ k, T k → w'.heap[k]? = w.heap[k]?) :=
  (h.swap.left hc).mono fun e w' ⟨he, ht, hk⟩ => ⟨he, ht.out.swap, hk⟩
theorem SlW.stand {v : Value} {L : List Wr} (h : SlW w v L) (hT : L ≠ [] → ∀ k, v.ownBlock = some k → T k) (hs : w.heap.size ≤ w'.heap.size) (hk : ∀ k, T k → w'.heap[k]? = w.heap[k]?) : SlW w' v L := by
  obtain ⟨ao, c, rfl, h⟩ := h
  refine ⟨ao, c, rfl, ?_⟩
  by_cases hL : L = []
  · exact .inl hL
  · rcases h with h | ⟨b, e, hlt, hc⟩
    · exact .inl h
    · subst e
      have hb := hk b (hT hL b rfl)
      exact .inr ⟨b, rfl, Nat.lt_of_lt_of_le hlt hs, fun j hj => ⟨(World.cell?_of_block (a := ⟨b, j * 2, none⟩) hb).trans (hc j hj).1, (World.cell?_of_block (a := ⟨b, j * 2 + 1, none⟩) hb).trans (hc j hj).2⟩⟩
theorem SlW.block {v : Value} {L : List Wr} {k : Nat} (h : SlW w v L) (hL : L ≠ []) (e : v.ownBlock = some k) : k < w.heap.size := by
  obtain ⟨ao, c, rfl, h⟩ := h
  rcases h with h | ⟨b, e', hlt, _⟩
  · exact absurd h hL
  · subst e'; cases e; exact hlt
theorem Two.ok1 (h : Two T w0 w p1 p2 C1 C2) : C1.Ok := by obtain ⟨S1, S2, h1, h2, h3, h4, h5, h6⟩ := h.ex; exact h5.ok
theorem Two.ok2 (h : Two T w0 w p1 p2 C1 C2) : C2.Ok := by obtain ⟨S1, S2, h1, h2, h3, h4, h5, h6⟩ := h.ex; exact h6.ok
theorem Two.dirtyL (h : Two T w0 w p1 p2 C1 C2) : Calls Try.prog 17 #[.pointer (some ⟨p1, 0, none⟩)] w fun e w' => ∃ v, e = .returned v ∧ Hid (SlW w' v C1.dirty) ∧ Hid (Below w.heap.size w w') ∧ Hid (∀ k, v.ownBlock = some k → w.heap.size ≤ k) := by
  obtain ⟨S1, S2, h1, h2, h3, h4, h5, h6⟩ := h.ex
  exact dirty_any h5
theorem Two.blocksL (h : Two T w0 w p1 p2 C1 C2) : Calls Try.prog 16 #[.pointer (some ⟨p1, 0, none⟩)] w fun e w' => ∃ v, e = .returned v ∧ Hid (SlI w' v (keys C1.L)) ∧ Hid (Below w.heap.size w w') := by
  obtain ⟨S1, S2, h1, h2, h3, h4, h5, h6⟩ := h.ex
  exact (blocks_any h5).mono fun e w' ⟨v, he, hr, hb⟩ => ⟨v, he, SlI.of_own hr, hb⟩
theorem Two.gets {M : List Wr} (h : Two T w0 w p1 p2 C1 C2) (hm : Tells M C2) (hms : C2.misses < 1000000) {x : Wr} (hx : x ∈ M) (hi : -9223372036854775808 ≤ x.1 ∧ x.1 ≤ 9223372036854775807) :
    Calls Try.prog 22 #[.pointer (some ⟨p2, 0, none⟩), .int .i64 x.1] w fun e w' => e = .returned (.tuple #[.string x.2, .int .i64 0]) ∧ Hid (∃ D, Two T w0 w' p1 p2 C1 D ∧ Tells M D ∧ D.misses < 1000000) ∧ Hid (w.heap.size ≤ w'.heap.size ∧ ∀ k, T k → w'.heap[k]? = w.heap[k]?) := by
  obtain ⟨k, y, hf, hg, ht⟩ := hm.get h.ok2 hx (told x.1) (toldE x.1)
  refine (h.right (C' := { C2 with L := y :: C2.L.eraseIdx k }) (v := .tuple #[.string x.2, .int .i64 0]) fun S hc => ?_).mono fun e w' ⟨he, h2, h3⟩ => ⟨he, ⟨_, h2.out, ht, hms⟩, h3.out⟩
  have := get_any x.1 hi hc hms
  rw [hg] at this
  exact this
theorem new_two_homes (m : Nat) (w0 w : World) (h : Home w0 w p1 C1) (h1 : 1 ≤ m) (h2 : m ≤ 1024) :
    Calls Try.prog 10 #[src0, .int .i64 (m : Int)] w fun e w' => ∃ p2, e = .returned (.tuple #[.pointer (some ⟨p2, 0, none⟩), .int .i64 0]) ∧ Hid (Two (fun _ => False) w0 w' p1 p2 C1 (CS.new m)) := by
  obtain ⟨S, i1, i2, i3⟩ := h
  refine (new_yes _ _ m w h1 h2).mono fun e w' ⟨p, he, S2, hS, hc, hb'⟩ => ⟨p, he, ⟨S, S2, i1, fun k hk => Nat.le_trans i3.size (hS k hk), fun k a b => by have := i2.lt k a; have := hS k b; omega, fun k hk => hk.elim, i2.below hb', hc⟩, fun k hk => hk.elim, i3.trans (hb'.mono i3.size)⟩
end

end Go.Proofs.Yteeoglfgilabaaa
/- CacheTells in plain lists: what is put, and what is told. -/
namespace Go.Proofs.Yteeoglfgilabaaa
open Go.RowKit

/-- What was put last of block i, else t. -/
def lastW (put : List Wr) (i : Int) (t : ByteArray) : ByteArray := put.foldl (fun acc x => if x.1 = i then x.2 else acc) t
theorem lastW_none {put : List Wr} {i : Int} (h : ∀ x ∈ put, x.1 ≠ i) (t : ByteArray) : lastW put i t = t := by
  unfold lastW
  induction put generalizing t with
  | nil => rfl
  | cons x r ih =>
    rw [List.foldl_cons, if_neg (h x (List.mem_cons_self ..))]
    exact ih (fun y hy => h y (List.mem_cons_of_mem _ hy)) t
theorem lastW_snoc (put : List Wr) (x : Wr) (i : Int) (t : ByteArray) : lastW (put ++ [x]) i t = if x.1 = i then x.2 else lastW put i t := by unfold lastW; rw [List.foldl_append]; rfl
/-- lastW, by and by. -/
theorem lastW_take (put : List Wr) (i : Int) (t : ByteArray) : ∃ LW : Nat → ByteArray, LW 0 = t ∧ LW put.length = lastW put i t ∧ ∀ k (h : k < put.length), LW (k + 1) = if put[k].1 = i then put[k].2 else LW k :=
  ⟨fun k => lastW (put.take k) i t, rfl, by show lastW (put.take put.length) i t = _; rw [List.take_length], fun k h => by
    show lastW (put.take (k + 1)) i t = if put[k].1 = i then put[k].2 else lastW (put.take k) i t
    rw [List.take_succ_eq_append_getElem h, lastW_snoc]⟩
/-- What the walk keeps: what is kept is what was put last, or what the source tells; what was put is kept, dirty. -/
structure Told (put : List Wr) (C : CS) : Prop where
  data : ∀ y ∈ C.L, y.data = lastW put y.key (told y.key)
  puts : ∀ x ∈ put, ∃ y ∈ C.L, y.key = x.1 ∧ y.dirty = true
theorem Told.none {put : List Wr} {C : CS} (h : Told put C) {i : Int} (hi : i ∉ keys C.L) : ∀ x ∈ put, x.1 ≠ i := by
  intro x hx e
  obtain ⟨y, hy, hk, _⟩ := h.puts x hx
  exact hi (e ▸ hk ▸ List.mem_map.2 ⟨y, hy, rfl⟩)
/-- What is put by an act that was OK. -/
def putA (put : List Wr) (C : CS) (a : Act6) : List Wr := if a.q = 9 then [] else if (a.q = 4 ∨ a.q = 5) ∧ (C.does a).1.2 = 0 then put ++ [(a.i, fl a.b)] else put
theorem Kp.dirty_held {x : Kp} (h : x.dirty = true) : x.free = false := by unfold Kp.free; rw [h]; rfl
theorem Told.get {put : List Wr} {C : CS} (h : Told put C) (ok : C.Ok) (i : Int) : Told put (C.get i (told i) (toldE i)).2 ∧ ((C.get i (told i) (toldE i)).1.2 = 0 → (C.get i (told i) (toldE i)).1.1 = lastW put i (told i)) := by
  unfold CS.get
  cases hf : fx C.L i with
  | some ky =>
    obtain ⟨k, y⟩ := ky
    obtain ⟨hk, h1, h2, _⟩ := fx_some hf
    have hp := perm_front hk
    rw [h1] at hp
    refine ⟨⟨fun z hz => h.data z (hp.subset hz), fun x hx => ?_⟩, fun _ => ?_⟩
    · obtain ⟨z, hz, hz2⟩ := h.puts x hx
      exact ⟨z, hp.symm.subset hz, hz2⟩
    · show y.data = _
      rw [h.data y (fx_mem hf), h2]
  | none =>
    simp only
    split
    · exact ⟨h, fun e => absurd e (by assumption)⟩
    · cases hr : room C.L C.most with
      | none => exact ⟨h, fun e => by have h2 : (14 : Int) = 0 := e; omega⟩
      | some M =>
        have hn := h.none (fx_none_iff.1 hf)
        refine ⟨⟨fun z hz => ?_, fun x hx => ?_⟩, fun _ => (lastW_none hn _).symm⟩
        · rcases List.mem_cons.1 hz with rfl | hz
          · exact (lastW_none hn _).symm
          · exact h.data z ((room_sub hr).subset hz)
        · obtain ⟨z, hz, hz2, hz3⟩ := h.puts x hx
          exact ⟨z, List.mem_cons_of_mem _ (room_keeps hr hz (Kp.dirty_held hz3)), hz2, hz3⟩
theorem Told.put {put : List Wr} {C : CS} (h : Told put C) (ok : C.Ok) (i : Int) (s : ByteArray) : Told (if (C.put i s).1 = 0 then put ++ [(i, s)] else put) (C.put i s).2 := by
  unfold CS.put
  split
  · rw [if_neg (by show (3 : Int) ≠ 0; omega)]; exact h
  · cases hf : fx C.L i with
    | some ky =>
      obtain ⟨k, y⟩ := ky
      obtain ⟨hk, h1, h2, _⟩ := fx_some hf
      simp only
      rw [if_pos trivial]
      refine ⟨fun z hz => ?_, fun x hx => ?_⟩
      · rcases List.mem_cons.1 hz with rfl | hz
        · rw [lastW_snoc, if_pos h2.symm]
        · have hne : i ≠ z.key := fun e => not_mem_erase ok.nodup hf (List.mem_map.2 ⟨z, hz, e.symm⟩)
          rw [lastW_snoc, if_neg hne]; exact h.data z (mem_erase hz)
      · rcases List.mem_append.1 hx with hx | hx
        · obtain ⟨z, hz, hz2, hz3⟩ := h.puts x hx
          by_cases e : z.key = i
          · exact ⟨_, List.mem_cons_self .., by show y.key = x.1; rw [h2, ← hz2, e], rfl⟩
          · exact ⟨z, List.mem_cons_of_mem _ (erase_other hf hz e), hz2, hz3⟩
        · rw [List.mem_singleton.1 hx]
          exact ⟨_, List.mem_cons_self .., h2, rfl⟩
    | none =>
      simp only
      cases hr : room C.L C.most with
      | none => simp only; rw [if_neg (by omega)]; exact h
      | some M =>
        simp only
        rw [if_pos trivial]
        have hni := fx_none_iff.1 hf
        refine ⟨fun z hz => ?_, fun x hx => ?_⟩
        · rcases List.mem_cons.1 hz with rfl | hz
          · rw [lastW_snoc, if_pos rfl]
          · have hne : i ≠ z.key := fun e => hni (List.mem_map.2 ⟨z, (room_sub hr).subset hz, e.symm⟩)
            rw [lastW_snoc, if_neg hne]; exact h.data z ((room_sub hr).subset hz)
        · rcases List.mem_append.1 hx with hx | hx
          · obtain ⟨z, hz, hz2, hz3⟩ := h.puts x hx
            exact ⟨z, List.mem_cons_of_mem _ (room_keeps hr hz (Kp.dirty_held hz3)), hz2, hz3⟩
          · rw [List.mem_singleton.1 hx]
            exact ⟨_, List.mem_cons_self .., rfl, rfl⟩
theorem Told.set {put : List Wr} {C : CS} (h : Told put C) {i : Int} {k : Nat} {y z : Kp} (hf : fx C.L i = some (k, y)) (h1 : z.key = y.key) (h2 : z.data = y.data) (h3 : z.dirty = y.dirty) : Told put { C with L := C.L.set k z } := by
  obtain ⟨hk, e1, e2, _⟩ := fx_some hf
  refine ⟨fun u hu => ?_, fun x hx => ?_⟩
  · rcases List.mem_or_eq_of_mem_set hu with hu | rfl
    · exact h.data u hu
    · rw [h2, h1]; exact h.data y (fx_mem hf)
  · obtain ⟨u, hu, hu2, hu3⟩ := h.puts x hx
    obtain ⟨j, hj, rfl⟩ := List.getElem_of_mem hu
    by_cases e : j = k
    · subst e
      rw [e1] at hu2 hu3
      exact ⟨z, List.mem_set hk _, h1.trans hu2, h3.trans hu3⟩
    · refine ⟨C.L[j], ?_, hu2, hu3⟩
      have : (C.L.set k z)[j]'(by simpa using hj) = C.L[j] := by rw [List.getElem_set_ne (Ne.symm e)]
      rw [← this]; exact List.getElem_mem _
theorem Told.drop {put : List Wr} {C : CS} (h : Told put C) (ok : C.Ok) : Told [] C.drop := by
  refine ⟨fun y hy => ?_, fun x hx => by cases hx⟩
  obtain ⟨hy1, hy2⟩ := List.mem_filter.1 hy
  rw [h.data y hy1]
  have : ∀ x ∈ put, x.1 ≠ y.key := by
    intro x hx e
    obtain ⟨z, hz, hz2, hz3⟩ := h.puts x hx
    have := key_is ok.nodup hz hy1 (hz2.trans e)
    subst this
    rw [hz3] at hy2; cases hy2
  rw [lastW_none this]; rfl
theorem Told.does {put : List Wr} {C : CS} (h : Told put C) (ok : C.Ok) (a : Act6) (h8 : a.q ≠ 8) : Told (putA put C a) (C.does a).2 := by
  have hq := a.q_lt
  unfold putA CS.does
  by_cases q4 : a.q = 4 ∨ a.q = 5
  · rw [if_neg (by omega), if_pos q4]
    have := h.put ok a.i a.s
    by_cases e : (C.put a.i a.s).1 = 0
    · rw [if_pos e] at this
      rw [if_pos ⟨q4, e⟩]
      have hs : a.s = fl a.b := by
        unfold Act6.s dataB
        by_cases hb : a.bad = true
        · have : (C.put a.i a.s).1 = 3 := by unfold CS.put; rw [if_pos]; unfold Act6.s dataB; rw [if_pos hb]; decide
          omega
        · rw [if_neg hb]
      rw [hs] at this ⊢
      exact this
    · rw [if_neg e] at this
      rw [if_neg (fun hh => e hh.2)]
      exact this
  · rw [if_neg q4]
    by_cases q6 : a.q = 6
    · rw [if_neg (by omega), if_neg (fun hh => q4 hh.1), if_pos q6]
      show Told put (C.pin a.i).2
      unfold CS.pin
      cases hf : fx C.L a.i with
      | some ky => exact h.set hf rfl rfl rfl
      | none => exact h
    · rw [if_neg q6]
      by_cases q7 : a.q = 7
      · rw [if_neg (by omega), if_neg (fun hh => q4 hh.1), if_pos q7]
        show Told put (C.unpin a.i).2
        unfold CS.unpin
        cases hf : fx C.L a.i with
        | some ky =>
          simp only
          split
          · exact h
          · exact h.set hf rfl rfl rfl
        | none => exact h
      · rw [if_neg q7, if_neg h8]
        by_cases q9 : a.q = 9
        · rw [if_pos q9, if_pos q9]; exact h.drop ok
        · rw [if_neg q9, if_neg (fun hh => q4 hh.1), if_neg q9]; exact (h.get ok a.i).1
theorem Told.new (m : Nat) : Told [] (CS.new m) := ⟨(fun y hy => by cases hy), (fun x hx => by cases hx)⟩
theorem does_most (C : CS) (a : Act6) : (C.does a).2.most = C.most := by
  unfold CS.does
  split
  · show (C.put a.i a.s).2.most = _
    unfold CS.put
    split
    · rfl
    · split
      · rfl
      · split <;> rfl
  · split
    · show (C.pin a.i).2.most = _
      unfold CS.pin
      split <;> rfl
    · split
      · show (C.unpin a.i).2.most = _
        unfold CS.unpin
        split
        · split <;> rfl
        · rfl
      · split
        · rfl
        · split
          · rfl
          · unfold CS.get
            split
            · rfl
            · split
              · rfl
              · split <;> rfl
/-- All that was put is among the dirty ones. -/
theorem Told.dirty {put : List Wr} {C : CS} (h : Told put C) : ∀ x ∈ put, ∃ y ∈ C.dirty, y.1 = x.1 := by
  intro x hx
  obtain ⟨y, hy, hk, hd⟩ := h.puts x hx
  exact ⟨_, C.dirty_perm.symm.subset (mem_dls hy hd), hk⟩
end Go.Proofs.Yteeoglfgilabaaa
/- A cache, and a row of writes of one's own beside it; an append as a step of a region, told where the row lies behind it. -/
namespace Go.Proofs.Yteeoglfgilabaaa
open Go.RowKit

section
variable {P : Program}
theorem step_append_where {ops : Array Oper} {o : Oper} {a : Act} {w : World} {K : Act → World → Prop} {Q : Exit → Act → World → Prop} {E : Prop} (hgd : o.guard = none) (s x : Operand) (t : TypeId)
    (ho : o.op = .call { callee := .builtin .append, args := #[s, x], argTypes := #[t, t] })
    (base : Nat) (e : TypeId) (i : TypeInfo) (z : Value) (size bytes : Nat) (ht : P.underlying t = some (.slice e)) (hi : P.info? e = some i) (hz : i.zero = some z)
    (hsize : i.size = size) (hby : i.bytes = bytes) (hzs : z.cells.size = size) (hsz : 0 < size)
    (v : Value) (n : Nat) (xs : List Value) (hs : a.eval s = v) (hown : w.ownsRow base e size v n xs)
    (ad : Addr) (m c : Nat) (news : List Value) (hx : a.eval x = .slice (some ad) m c) (hl : news.length = m * size) (hnews : ∀ j u, news[j]? = some u → w.cell? (ad.add j) = some u) (h1 : ∀ u ∈ news, u.oneCell' = true)
    (h63 : n + m ≤ maxLen) (hbytes : (n + m) * bytes ≤ 140737488355328) (hbase : base ≤ w.heap.size)
    (h : ∀ v' w', w'.ownsRow base e size v' (n + m) (xs ++ news) → w.grownBy w' v.ownBlock → (∀ k, v'.ownBlock = some k → v.ownBlock = some k ∨ w.heap.size ≤ k) → K (a.put o.dst v') w') :
    if Region.wanted o (yielded ops a.tmps) = true then Oper.wp P o a w K Q else E := by
  have hw : Region.wanted o (yielded ops a.tmps) = true := by simp [Region.wanted, hgd]
  rw [if_pos hw]
  obtain ⟨v', w', hr, h2, h3, h4⟩ := run_append_where (P := P) w base t o.type e i z size bytes ht hi hz hsize hby hzs hsz v n xs hown ad m c news hl hnews h1 h63 hbytes hbase
  unfold Oper.wp execOp
  simp only [ho, resolve, invoke, builtin, Sem.run_bind, Sem.run_pure, Result.andThen_ok, List.map_toArray, List.map_cons, List.map_nil, hs, hx, hr]
  exact h v' w' h2 h3 h4
end

/-- A cache at p that says C, and the row v of the writes put, on memory that is new and apart. -/
structure TW (w0 w : World) (p : Nat) (C : CS) (v : Value) (put : List Wr) : Prop where
  ex : ∃ S : Nat → Prop, (∀ k, S k → w0.heap.size ≤ k) ∧ Cch S w p src0 C ∧ ∀ k, v.ownBlock = some k → ¬ S k
  row : OwnW w0.heap.size w v put
  bel : Below w0.heap.size w0 w
section
variable {w0 w w' : World} {p : Nat} {C C' : CS} {v v' : Value} {put put' : List Wr}
theorem TW.ok (h : TW w0 w p C v put) : C.Ok := by obtain ⟨S, _, hc, _⟩ := h.ex; exact hc.ok
theorem TW.start (h : Home w0 w p C) : TW w0 w p C (.slice none 0 0) [] := by
  obtain ⟨S, h1, h2, h3⟩ := h
  exact ⟨⟨S, h1, h2, fun k e => by cases e⟩, OwnW.nil _ _, h3⟩
theorem TW.empty (h : TW w0 w p C v put) : TW w0 w p C (.slice none 0 0) [] := by
  obtain ⟨S, h1, h2, h3⟩ := h.ex
  exact ⟨⟨S, h1, h2, fun k e => by cases e⟩, OwnW.nil _ _, h.bel⟩
theorem TW.home (h : TW w0 w p C v put) : Home w0 w p C := by
  obtain ⟨S, h1, h2, _⟩ := h.ex
  exact ⟨S, h1, h2, h.bel⟩
theorem TW.below (h : TW w0 w p C v put) (hb : Below w.heap.size w w') : TW w0 w' p C v put := by
  obtain ⟨S, h1, h2, h3⟩ := h.ex
  exact ⟨⟨S, h1, h2.below hb, h3⟩, h.row.below hb, h.bel.trans (hb.mono h.bel.size)⟩
theorem TW.dirty (h : TW w0 w p C v put) : Calls Try.prog 17 #[.pointer (some ⟨p, 0, none⟩)] w fun e w' => ∃ v, e = .returned v ∧ Hid (SlW w' v C.dirty) ∧ Hid (Below w.heap.size w w') := by
  obtain ⟨S, h1, h2, h3⟩ := h.ex
  exact (dirty_any h2).mono fun e w' ⟨v, he, hs, hb, _⟩ => ⟨v, he, hs, hb⟩
theorem OwnW.sl {B : Nat} (h : OwnW B w v put) : SlW w v put := by
  cases put with
  | nil => obtain ⟨ao, c, hv⟩ := own_shape h; exact ⟨ao, c, hv, .inl rfl⟩
  | cons x r =>
    obtain ⟨g, c, hv⟩ := own_succ (n := r.length) h
    subst hv
    refine ⟨_, c, rfl, .inr ⟨g, rfl, (h.lt g rfl).2, fun j hj => ?_⟩⟩
    have hl := flatI_length (x :: r)
    exact ⟨by rw [World.ownsRow.cellAt h _ (by simp at hj ⊢; omega)]; exact flatI_fst _ j hj, by rw [World.ownsRow.cellAt h _ (by simp at hj ⊢; omega)]; exact flatI_snd _ j hj⟩
/-- A call on the cache leaves the row as it was. -/
theorem TW.act (h : TW w0 w p C v put) {f : FuncId} {args : Array Value} {r : Value} (hc : ∀ S, Cch S w p src0 C → Calls Try.prog f args w fun e w' => e = .returned r ∧ CLeaves S w w' p src0 C') :
    Calls Try.prog f args w fun e w' => e = .returned r ∧ Hid (TW w0 w' p C' v put) := by
  obtain ⟨S, h1, h2, h3⟩ := h.ex
  refine (hc S h2).mono fun e w' ⟨he, S', i1, i2, i3⟩ => ⟨he, ⟨S', fun k hk => ?_, i2, fun k e hk => ?_⟩, ?_, h.bel.trans (i3.below h.bel.size (fun k _ hk => h1 k hk))⟩
  · rcases i1 k hk with e | e
    · exact h1 k e
    · exact Nat.le_trans h.bel.size e
  · rcases i1 k hk with e' | e'
    · exact h3 k e e'
    · have := (h.row.lt k e).2; omega
  · refine ⟨h.row.1, ?_⟩
    rcases h.row.2 with hn | ⟨g, cap, cur, rfl, hB, hg, rest⟩
    · exact .inl hn
    · exact .inr ⟨g, cap, cur, rfl, hB, by rw [i3.block g (Array.getElem?_eq_some_iff.1 hg).1 (h3 g rfl)]; exact hg, rest⟩
/-- A call on the cache, an act's box beside it. -/
theorem TW.actA {A : Act6} {X : World} (h : TW w0 w p C v put) (hb : Below w.heap.size w X) (hlt : w.heap.size < X.heap.size) (hx : HeldX w.heap.size A X) {f : FuncId} {args : Array Value} {r : Value} (hc : ∀ S, Cch S X p src0 C → Calls Try.prog f args X fun e w' => e = .returned r ∧ CLeaves S X w' p src0 C') :
    Calls Try.prog f args X fun e w' => e = .returned r ∧ Hid (TW w0 w' p C' v put) ∧ HeldX w.heap.size A w' := by
  obtain ⟨S, h1, h2, h3⟩ := h.ex
  have hX := h.below hb
  refine (hc S (h2.below hb)).mono fun e w' ⟨he, hl⟩ => ⟨he, ?_, ?_⟩
  · obtain ⟨S', i1, i2, i3⟩ := hl
    refine ⟨⟨S', fun k hk => ?_, i2, fun k e hk => ?_⟩, ?_, hX.bel.trans (i3.below hX.bel.size (fun k _ hk => h1 k hk))⟩
    · rcases i1 k hk with e | e
      · exact h1 k e
      · exact Nat.le_trans hX.bel.size e
    · rcases i1 k hk with e' | e'
      · exact h3 k e e'
      · have := (hX.row.lt k e).2; omega
    · refine ⟨hX.row.1, ?_⟩
      rcases hX.row.2 with hn | ⟨g, cap, cur, rfl, hB, hg, rest⟩
      · exact .inl hn
      · exact .inr ⟨g, cap, cur, rfl, hB, by rw [i3.block g (Array.getElem?_eq_some_iff.1 hg).1 (h3 g rfl)]; exact hg, rest⟩
  · obtain ⟨_, _, _, ho⟩ := hl
    have hn : ¬ S w.heap.size := fun hs => by have := h2.lt _ hs; omega
    exact ⟨(ho.cell (p := ⟨w.heap.size, 0, none⟩) hlt hn).trans hx.1, (ho.cell (p := ⟨w.heap.size, 1, none⟩) hlt hn).trans hx.2.1, (ho.cell (p := ⟨w.heap.size, 2, none⟩) hlt hn).trans hx.2.2.1, (ho.cell (p := ⟨w.heap.size, 3, none⟩) hlt hn).trans hx.2.2.2⟩
/-- A write appended: w1 lies behind w, and the slice of one write is laid there. -/
theorem TW.push {w1 : World} {i : Int} {s : ByteArray} (h : TW w0 w1 p C v put) (hown : w'.ownsRow w0.heap.size 50 2 v' (put.length + 1) (flatI put ++ [.int .i64 i, .string s])) (hg : w1.grownBy w' v.ownBlock) (hw : ∀ k, v'.ownBlock = some k → v.ownBlock = some k ∨ w1.heap.size ≤ k) : TW w0 w' p C v' (put ++ [(i, s)]) := by
  obtain ⟨S, h1, h2, h3⟩ := h.ex
  have ho : Only (fun k => v.ownBlock = some k) w1 w' := ⟨hg.os, hg.tape, hg.output, hg.size, fun k hk hne => hg.block k hk (fun e => hne e.symm)⟩
  refine ⟨⟨S, h1, h2.kept ho (fun k hk e => h3 k e hk), fun k e hk => ?_⟩, own_pushW hown, h.bel.grown hg h.bel.size (fun k e => (h.row.lt k e).1)⟩
  rcases hw k e with e' | e'
  · exact h3 k e' hk
  · have := h2.lt k hk; omega
end
end Go.Proofs.Yteeoglfgilabaaa
/- The document's cache in memory: three cells and a row of what is kept. -/
namespace Go.Proofs.Yteeoglfgilabaaa
open Go.RowKit

def flatQ : List Kp → List Value
  | [] => []
  | x :: r => .int .i64 x.key :: .string x.data :: .bool x.dirty :: .int .i64 (x.pins : Int) :: flatQ r
theorem flatQ_length (L : List Kp) : (flatQ L).length = L.length * 4 := by
  induction L with
  | nil => rfl
  | cons x r ih => unfold flatQ; simp only [List.length_cons, ih]; omega
theorem flatQ_append (A B : List Kp) : flatQ (A ++ B) = flatQ A ++ flatQ B := by
  induction A with
  | nil => rfl
  | cons x r ih =>
    show _ :: _ :: _ :: _ :: flatQ (r ++ B) = _
    rw [ih]; rfl
theorem flatQ_at (L : List Kp) (i : Nat) (h : i < L.length) : (flatQ L)[i * 4]? = some (.int .i64 L[i].key) ∧ (flatQ L)[i * 4 + 1]? = some (.string L[i].data) ∧ (flatQ L)[i * 4 + 2]? = some (.bool L[i].dirty) ∧ (flatQ L)[i * 4 + 3]? = some (.int .i64 (L[i].pins : Int)) := by
  induction L generalizing i with
  | nil => cases h
  | cons x r ih =>
    cases i with
    | zero => exact ⟨rfl, rfl, rfl, rfl⟩
    | succ j =>
      obtain ⟨a, b, c, d⟩ := ih j (by simpa using h)
      have e0 : (j + 1) * 4 = j * 4 + 1 + 1 + 1 + 1 := by omega
      refine ⟨?_, ?_, ?_, ?_⟩
      · rw [e0]; simpa [flatQ] using a
      · rw [show (j + 1) * 4 + 1 = j * 4 + 1 + 1 + 1 + 1 + 1 by omega]; simpa [flatQ] using b
      · rw [show (j + 1) * 4 + 2 = j * 4 + 2 + 1 + 1 + 1 + 1 by omega]; simpa [flatQ] using c
      · rw [show (j + 1) * 4 + 3 = j * 4 + 3 + 1 + 1 + 1 + 1 by omega]; simpa [flatQ] using d
theorem flatQ_one (L : List Kp) : ∀ u ∈ flatQ L, u.oneCell' = true := by
  induction L with
  | nil => intro u h; cases h
  | cons x r ih =>
    intro u h
    simp only [flatQ, List.mem_cons] at h
    rcases h with rfl | rfl | rfl | rfl | h
    · rfl
    · rfl
    · rfl
    · rfl
    · exact ih u h
/-- What is kept, as a value. -/
def Kp.agg (x : Kp) : Value := .agg #[.int .i64 x.key, .string x.data, .bool x.dirty, .int .i64 (x.pins : Int)]
theorem _root_.Go.Proofs.Try.infoK : (Try.prog.info? 48).map (fun i => (i.zero, i.size, i.bytes)) = some (some (.agg #[.int .i64 0, .string ⟨#[]⟩, .bool false, .int .i64 0]), 4, 40) := by kernel_rfl

/-- Block p is the document's cache: its row v says L; so many may be kept; so often the source told one. -/
structure R3 (w : World) (p : Nat) (v : Value) (L : List Kp) (m mi : Int) : Prop where
  hp : w.heap[p]? = some (.cells #[v, .int .i64 m, .int .i64 mi] 42 (0, 0))
  hr : w.ownsRow 0 48 4 v L.length (flatQ L)
  rp : v.ownBlock ≠ some p
section
variable {w w' : World} {p : Nat} {v : Value} {L : List Kp} {m mi : Int}
theorem R3.c0 (h : R3 w p v L m mi) : w.cell? ⟨p, 0, none⟩ = some v := by rw [cell_at h.hp]; rfl
theorem R3.c1 (h : R3 w p v L m mi) : w.cell? ⟨p, 1, none⟩ = some (.int .i64 m) := by rw [cell_at h.hp]; rfl
theorem R3.c2 (h : R3 w p v L m mi) : w.cell? ⟨p, 2, none⟩ = some (.int .i64 mi) := by rw [cell_at h.hp]; rfl
theorem R3.f (h : R3 w p v L m mi) (i : Nat) : w.frozen? ⟨p, i, none⟩ = false := free_at h.hp i
theorem R3.lt (h : R3 w p v L m mi) : p < w.heap.size := (Array.getElem?_eq_some_iff.1 h.hp).1
theorem R3.kept (h : R3 w p v L m mi) {T : Nat → Prop} (ho : Only T w w') (h1 : ¬ T p) (h2 : ∀ k, v.ownBlock = some k → ¬ T k) : R3 w' p v L m mi := by
  refine ⟨by rw [ho.block p h.lt h1]; exact h.hp, ⟨h.hr.1, ?_⟩, h.rp⟩
  rcases h.hr.2 with hn | ⟨g, cap, cur, rfl, hb, hg, rest⟩
  · exact .inl hn
  · exact .inr ⟨g, cap, cur, rfl, hb, by rw [ho.block g (Array.getElem?_eq_some_iff.1 hg).1 (h2 g rfl)]; exact hg, rest⟩
theorem R3.below (h : R3 w p v L m mi) (hb : Below w.heap.size w w') : R3 w' p v L m mi :=
  h.kept (Only.of_below (fun _ => False) hb (Nat.le_refl _)) id (fun _ _ => id)
/-- Where the row lies, and its cells. -/
theorem R3.row (h : R3 w p v L m mi) (h0 : 0 < L.length) : ∃ g cap, v = .slice (some ⟨g, 0, none⟩) L.length cap ∧ g ≠ p ∧ g < w.heap.size ∧ L.length ≤ cap ∧ cap ≤ maxLen ∧ ∀ i (hi : i < L.length), w.cell? ⟨g, i * 4, none⟩ = some (.int .i64 L[i].key) ∧ w.cell? ⟨g, i * 4 + 1, none⟩ = some (.string L[i].data) ∧ w.cell? ⟨g, i * 4 + 2, none⟩ = some (.bool L[i].dirty) ∧ w.cell? ⟨g, i * 4 + 3, none⟩ = some (.int .i64 (L[i].pins : Int)) := by
  have hr := h.hr
  rcases hr.2 with ⟨_, h1⟩ | ⟨g, cap, cur, rfl, hB, hg, hc, hc2, hrest⟩
  · omega
  · refine ⟨g, cap, rfl, fun e => h.rp (by rw [e]; rfl), (Array.getElem?_eq_some_iff.1 hg).1, hc, hc2, fun i hi => ?_⟩
    obtain ⟨a, b, c, d⟩ := flatQ_at L i hi
    exact ⟨by rw [World.ownsRow.cellAt hr _ (by omega)]; exact a, by rw [World.ownsRow.cellAt hr _ (by omega)]; exact b, by rw [World.ownsRow.cellAt hr _ (by omega)]; exact c, by rw [World.ownsRow.cellAt hr _ (by omega)]; exact d⟩
/-- What a call on the document's cache leaves. -/
def QL (w w' : World) (p : Nat) (v : Value) (L : List Kp) (m mi : Int) : Prop := ∃ v', R3 w' p v' L m mi ∧ (∀ k, v'.ownBlock = some k → v.ownBlock = some k ∨ w.heap.size ≤ k) ∧ Only (fun b => b = p ∨ v.ownBlock = some b) w w'
theorem R3.own_lt (h : R3 w p v L m mi) : ∀ k, v.ownBlock = some k → k < w.heap.size := by
  intro k hk
  rcases h.hr.2 with ⟨h1, _⟩ | ⟨g, cap, cur, rfl, _, hg, _⟩
  · rw [h1] at hk; cases hk
  · cases hk; exact (Array.getElem?_eq_some_iff.1 hg).1
theorem QL.refl (h : R3 w p v L m mi) : QL w w p v L m mi := ⟨v, h, fun _ => .inl, Only.refl _ _⟩
variable {w1 w2 : World} {v1 : Value} {L1 L2 : List Kp} {m1 mi1 m2 mi2 : Int}
/-- One call behind another one. -/
theorem QL.next (h1 : ∀ k, v1.ownBlock = some k → v.ownBlock = some k ∨ w.heap.size ≤ k) (ho : Only (fun b => b = p ∨ v.ownBlock = some b) w w1) (h : QL w1 w2 p v1 L2 m2 mi2) : QL w w2 p v L2 m2 mi2 := by
  obtain ⟨v', a, b, c⟩ := h
  have := ho.size
  refine ⟨v', a, fun k hk => ?_, ho.trans c (fun i hi hk => ?_)⟩
  · rcases b k hk with h | h
    · exact h1 k h
    · exact .inr (by omega)
  · rcases hk with hk | hk
    · exact .inl hk
    · rcases h1 i hk with h | h
      · exact .inr h
      · omega
end

section
variable {w : World} {p : Nat} {v : Value} {L : List Kp} {m mi : Int}
/-- Where a block stands. -/
def pos6 (L : List Kp) (i : Int) : Int := match fx L i with | some (k, _) => (k : Int) | none => -1
theorem fx_first {L : List Kp} {i : Int} {k : Nat} (hk : k < L.length) (h : L[k].key = i) (hb : ∀ j (hj : j < k), (L[j]'(by omega)).key ≠ i) : fx L i = some (k, L[k]) := by
  induction L generalizing k with
  | nil => cases hk
  | cons x r ih =>
    unfold fx
    cases k with
    | zero => rw [if_pos (by simpa using h)]; rfl
    | succ j =>
      have h0 := hb 0 (Nat.zero_lt_succ _)
      rw [if_neg (by simpa using h0), ih (k := j) (by simpa using hk) (by simpa using h) (fun t ht => by simpa using hb (t + 1) (by omega))]
      rfl
theorem fx_never {L : List Kp} {i : Int} (hb : ∀ j (hj : j < L.length), L[j].key ≠ i) : fx L i = none := by
  rw [fx_none_iff]
  intro hm
  obtain ⟨x, hx, e⟩ := List.mem_map.1 hm
  obtain ⟨j, hj, rfl⟩ := List.getElem_of_mem hx
  exact hb j hj e

set_option maxRecDepth 100000 in
set_option maxHeartbeats 1000000 in
theorem qfind_any (i : Int) (h : R3 w p v L m mi) (hl : L.length ≤ 4000) : Calls Try.prog 46 #[.pointer (some ⟨p, 0, none⟩), .int .i64 i] w fun e w' => e = .returned (.int .i64 (pos6 L i)) ∧ w = w' := by
  have c0 := h.c0
  obtain ⟨ao, cap, hv⟩ := own_shape h.hr
  have HR : Hid (0 < L.length → _) := fun h0 => h.row h0
  have HF : Hid (∀ k (hk : k < L.length), L[k].key = i → (∀ j (hj : j < k), (L[j]'(by omega)).key ≠ i) → pos6 L i = (k : Int)) := fun k hk h1 h2 => by unfold pos6; rw [fx_first hk h1 h2]
  have HN : Hid ((∀ j (hj : j < L.length), L[j].key ≠ i) → pos6 L i = -1) := fun hb => by unfold pos6; rw [fx_never hb]
  clear h
  generalize pos6 L i = P at *
  subst hv
  obtain ⟨n, hn⟩ : ∃ n, L.length = n := ⟨_, rfl⟩
  have HL := Lib.hid hn
  rw [hn] at c0 hl
  clear hn
  go_enter Try.func46, Try.ntmps46
  go_wp2
  go_loop [5] (fun t => ∃ k : Nat, k ≤ n ∧ t = .int .i64 (k : Int) ∧ Hid (∀ j (hj : j < k) (hL : j < L.length), L[j].key ≠ i)) (fun t => n - (intOf t).toNat)
  case atStart => exact ⟨0, Nat.zero_le _, rfl, fun j hj => absurd hj (Nat.not_lt_zero _)⟩
  case round =>
    obtain ⟨k, hk, rfl, HP⟩ := hrel
    by_cases hlt : k < n
    · have hkL : k < L.length := by rw [HL.out]; exact hlt
      have hkz : (k : Int) < (n : Int) := by omega
      obtain ⟨g, cap', hv, _, _, _, _, hc⟩ := HR.out (by omega)
      obtain ⟨rfl, _, rfl⟩ : ao = some ⟨g, 0, none⟩ ∧ L.length = L.length ∧ cap = cap' := by simpa using hv
      have x0 := (hc k hkL).1
      by_cases he : L[k].key = i
      · have HA := Lib.hid (HF.out k hkL he (fun j hj => HP.out j hj (by omega)))
        rw [he] at x0
        have hee : (i == i) = true := by simp
        clear hc hv he
        go_wp2
        go_ret
        exact ⟨by rw [HA.out]; rfl, rfl⟩
      · have HA : Hid (∀ j (hj : j < k + 1) (hL : j < L.length), L[j].key ≠ i) := fun j hj hL => by
          by_cases e : j = k
          · subst e; exact he
          · exact HP.out j (by omega) hL
        have hee : (L[k].key == i) = false := beq_eq_false_iff_ne.2 he
        clear hc hv
        generalize L[k].key = x at *
        clear hkL
        go_wp2
        go_round
        case rel => exact ⟨k + 1, by omega, by go_num, HA⟩
        case measure => simp [intOf]; omega
    · have hkz : ¬ (k : Int) < (n : Int) := by omega
      have HA := Lib.hid (HN.out (fun j hj => HP.out j (by have := HL.out; omega) hj))
      go_wp2
      go_ret
      exact ⟨by rw [HA.out]; rfl, rfl⟩
end
end Go.Proofs.Yteeoglfgilabaaa
/- The document's cache: what take and first answer and leave behind. -/
namespace Go.Proofs.Yteeoglfgilabaaa
open Go.RowKit

theorem news_take {w : World} {g cap n : Nat} {L : List Kp} (h : w.ownsRow 0 48 4 (.slice (some ⟨g, 0, none⟩) n cap) n (flatQ L)) (k : Nat) : ∀ j u, (flatQ (L.take k))[j]? = some u → w.cell? ((⟨g, 0, none⟩ : Addr).add j) = some u := by
  intro j u hu
  refine h.cells (g := g) rfl j u ?_
  rw [← List.take_append_drop k L, flatQ_append, List.getElem?_append_left (List.getElem?_eq_some_iff.1 hu).1]
  exact hu
theorem news_drop {w : World} {g cap n : Nat} {L : List Kp} (h : w.ownsRow 0 48 4 (.slice (some ⟨g, 0, none⟩) n cap) n (flatQ L)) (k : Nat) (hk : k ≤ L.length) : ∀ j u, (flatQ (L.drop k))[j]? = some u → w.cell? ((⟨g, k * 4, none⟩ : Addr).add j) = some u := by
  intro j u hu
  have hadd : ∀ o j, (⟨g, o, none⟩ : Addr).add j = ⟨g, o + j, none⟩ := fun o j => by unfold Addr.add; split <;> simp_all
  have := h.cells (g := g) rfl (k * 4 + j) u (by
    rw [← List.take_append_drop k L, flatQ_append, List.getElem?_append_right (by rw [flatQ_length, List.length_take]; omega), flatQ_length, List.length_take, show k * 4 + j - min k L.length * 4 = j by omega]
    exact hu)
  rw [hadd] at this ⊢
  rw [← this]; congr 2; omega
theorem setQ_ne {w : World} {a b i : Nat} {v : Value} (h : b ≠ a) : (w.setCell ⟨a, i, none⟩ v).heap[b]? = w.heap[b]? := by
  simp [World.setCell, Array.getElem?_modify, Ne.symm h]
theorem q_end {X w11 : World} {p k2 : Nat} {v v2 : Value} {L L' : List Kp} {m mi : Int} {N : List Value} (HRX : R3 X p v L m mi) (B11 : Below X.heap.size X w11) (hw : w11.ownsRow 0 48 4 v2 k2 N) (hn : L'.length = k2) (hN : N = flatQ L') (hg : ∀ q, v2.ownBlock = some q → X.heap.size ≤ q) : R3 (w11.setCell ⟨p, 0, none⟩ v2) p v2 L' m mi := by
  have hlt := HRX.lt
  have hne : v2.ownBlock ≠ some p := fun e => by have := hg p e; omega
  subst hn hN
  exact ⟨by rw [heap_setCell_at (by rw [B11.block p hlt]; exact HRX.hp)]; rfl, ownsRow_setCell_other hw (by simpa using hne) _, hne⟩
section
variable {w : World} {p : Nat} {v : Value} {L : List Kp} {m mi : Int}
set_option maxRecDepth 100000 in
set_option maxHeartbeats 2000000 in
theorem qtake_any (k : Nat) (hk : k < L.length) (h : R3 w p v L m mi) (hl : L.length ≤ 4000) : Calls Try.prog 47 #[.pointer (some ⟨p, 0, none⟩), .int .i64 (k : Int)] w fun e w' => e = .returned L[k].agg ∧ QL w w' p v (L.eraseIdx k) m mi := by
  obtain ⟨i0, hi, hz0, hz1, hz2⟩ := info_parts Try.infoK
  have HZ2 := Lib.hid hz2
  clear hz2
  obtain ⟨g, cap, rfl, hgp, hgl, hcl, hcm, hc⟩ := h.row (by omega)
  have c0 := h.c0
  have H := Lib.hid h
  obtain ⟨x0, x1, x2, x3⟩ := hc k hk
  have HAG : Hid (L[k].agg = .agg #[.int .i64 L[k].key, .string L[k].data, .bool L[k].dirty, .int .i64 (L[k].pins : Int)]) := rfl
  have HC := Lib.hid hc
  generalize L[k].agg = AG at *
  generalize L[k].key = xk at *
  generalize L[k].data = xd at *
  generalize L[k].dirty = xb at *
  generalize L[k].pins = xp at *
  obtain ⟨n, hn⟩ : ∃ n, L.length = n := ⟨_, rfl⟩
  have HL := Lib.hid hn
  have hpl := h.lt
  rw [hn] at c0 hl hcl ⊢
  have hkn : k < n := by omega
  have hkz : (k : Int) < (n : Int) := by omega
  clear hn hk h hc
  go_enter Try.func47, Try.ntmps47
  go_wp2_with fail
  obtain ⟨X, hX⟩ : ∃ X, ((w.alloc (.cells #[.int .i64 0, .string ⟨#[]⟩, .bool false, .int .i64 0] 48)).alloc (.cells #[.int .i64 xk, .string xd, .bool xb, .int .i64 (xp : Int)] 48)) = X := ⟨_, rfl⟩
  have hbX : Below w.heap.size w X := by rw [← hX]; exact ((Below.refl _ _).alloc (Nat.le_refl _) _).alloc (by simp) _
  have hX4 : X.heap[w.heap.size]? = some (.cells #[.int .i64 0, .string ⟨#[]⟩, .bool false, .int .i64 0] 48 (0, 0)) := by
    rw [← hX]
    have h1 := heap_alloc_new w (.cells #[.int .i64 0, .string ⟨#[]⟩, .bool false, .int .i64 0] 48)
    rw [((Below.refl _ _).alloc (Nat.le_refl _) _).block _ (by simp)]
    exact h1
  have hX5 : X.heap[w.heap.size + 1]? = some (.cells #[.int .i64 xk, .string xd, .bool xb, .int .i64 (xp : Int)] 48 (0, 0)) := by
    rw [← hX]
    have h1 := heap_alloc_new (w.alloc (.cells #[.int .i64 0, .string ⟨#[]⟩, .bool false, .int .i64 0] 48)) (.cells #[.int .i64 xk, .string xd, .bool xb, .int .i64 (xp : Int)] 48)
    simpa using h1
  have HRX := Lib.hid (H.out.below hbX)
  rw [hX]
  have HX4 := Lib.hid hX4; have HX5 := Lib.hid hX5; have HBX := Lib.hid hbX
  have c0 := HRX.out.c0
  have hglX : g < X.heap.size := Nat.lt_of_lt_of_le hgl hbX.size
  have hplX : p < X.heap.size := Nat.lt_of_lt_of_le hpl hbX.size
  rw [HL.out] at c0
  have c00 := Lib.hid c0
  have HN1 : Hid (∀ W : World, Below X.heap.size X W → ∀ j u, (flatQ (L.take k))[j]? = some u → W.cell? ((⟨g, 0, none⟩ : Addr).add j) = some u) := fun W hW => news_take (HRX.out.below hW).hr k
  have HN2 : Hid (∀ W : World, Below X.heap.size X W → ∀ j u, (flatQ (L.drop (k + 1)))[j]? = some u → W.cell? ((⟨g, (k + 1) * 4, none⟩ : Addr).add j) = some u) := fun W hW => news_drop (HRX.out.below hW).hr (k + 1) (by have := HL.out; omega)
  have HLn1 : Hid ((flatQ (L.take k)).length = k * 4) := by show _ = _; rw [flatQ_length, List.length_take]; have := HL.out; omega
  have HLn2 : Hid ((flatQ (L.drop (k + 1))).length = (n - (k + 1)) * 4) := by show _ = _; rw [flatQ_length, List.length_drop, HL.out]
  have HO1 := Lib.hid (flatQ_one (L.take k)); have HO2 := Lib.hid (flatQ_one (L.drop (k + 1)))
  have HER : Hid (flatQ (L.take k) ++ flatQ (L.drop (k + 1)) = flatQ (L.eraseIdx k)) := by show _ = _; rw [← flatQ_append, List.eraseIdx_eq_take_drop_succ]
  have HEL : Hid ((L.eraseIdx k).length = k + (n - (k + 1))) := by show _ = _; rw [List.length_eraseIdx, HL.out, if_pos hkn]; omega
  clear hX hX4 hX5 hbX x0 x1 x2 x3 HC
  generalize flatQ (L.take k) = N1 at *
  generalize flatQ (L.drop (k + 1)) = N2 at *
  unfold maxLen at hcm
  have hkc : k ≤ cap := by omega
  have hkc1 : k + 1 ≤ cap := by omega
  have wk : IntKind.i64.wrap ((k : Int) + 1) = (k : Int) + 1 := IntWalk.i64_in _ (by omega)
  have tk : ((k : Int) + 1).toNat = k + 1 := by omega
  have hk0 : ¬ ((k : Int) + 1 < 0) := by omega
  have hk2 : k + 1 ≤ n := by omega
  have hrg : 0 ≤ (k : Int) + 1 ∧ (k : Int) + 1 ≤ (n : Int) := ⟨by omega, by omega⟩
  by_cases hce : cap = k + 1
  · have hkq : (k : Int) ≤ (k : Int) + 1 := by omega
    have HN3 : Hid (∀ W : World, ∀ j u, N2[j]? = some u → W.cell? ((⟨g, 0, none⟩ : Addr).add j) = some u) := fun W j u hu => by
      have h1 := (List.getElem?_eq_some_iff.1 hu).1
      rw [HLn2.out] at h1
      omega
    go_region_law (first
      | (refine step_append_where rfl (.tmp 14) (.tmp 20) 40 rfl 0 48 i0 (.agg #[.int .i64 0, .string ⟨#[]⟩, .bool false, .int .i64 0]) 4 40 Try.underlying40 hi hz0 hz1 HZ2.out rfl (by omega) (.slice (some ⟨X.heap.size, 0, none⟩) 0 0) 0 [] (by kernel_rfl) ?own ⟨g, 0, none⟩ k (k + 1) N1 (by kernel_rfl) HLn1.out ?news HO1.out (by unfold maxLen; omega) (by omega) (Nat.zero_le _) ?_
         case own => exact World.ownsRow_lit X #[] 0 (Nat.zero_le _) (Nat.zero_le _) rfl
         case news => exact HN1.out _ (((Below.refl _ _).alloc (Nat.le_refl _) _).drew)
         intro v1 w10 hown hgrow hwh
         have B10 : Hid (Below X.heap.size X w10) := (((Below.refl _ _).alloc (Nat.le_refl _) _).drew).grown hgrow (by simp) (fun q hq => by cases hq; exact Nat.le_refl _)
         have ge1 : ∀ q, v1.ownBlock = some q → X.heap.size ≤ q := fun q hq => by
           rcases hwh q hq with h | h
           · cases h; exact Nat.le_refl _
           · simp at h; omega
         rw [Nat.zero_add, List.nil_append] at hown
         obtain ⟨ao1, c1, hv1⟩ := own_shape hown
         subst hv1
         have c0 := (B10.out.cell (p := ⟨p, 0, none⟩) hplX).trans c0
         have HG1 := Lib.hid ge1; have HW1 := Lib.hid hown
         clear hgrow hwh hown ge1)
      | (refine step_append_where rfl (.tmp 21) (.tmp 28) 40 rfl 0 48 i0 (.agg #[.int .i64 0, .string ⟨#[]⟩, .bool false, .int .i64 0]) 4 40 Try.underlying40 hi hz0 hz1 HZ2.out rfl (by omega) (.slice ao1 k c1) k N1 (by kernel_rfl) ?own2 ⟨g, 0, none⟩ (n - (k + 1)) 0 N2 (by kernel_rfl) HLn2.out ?news2 HO2.out (by unfold maxLen; omega) (by omega) (Nat.zero_le _) ?_
         case own2 => exact HW1.out
         case news2 => exact HN3.out _
         intro v2 w11 hown2 hgrow2 hwh2
         have B11 : Hid (Below X.heap.size X w11) := B10.out.grown hgrow2 B10.out.size HG1.out
         have HG2 : Hid (∀ q, v2.ownBlock = some q → X.heap.size ≤ q) := fun q hq => by
           rcases hwh2 q hq with h | h
           · exact HG1.out q h
           · exact Nat.le_trans B10.out.size h
         have c0'' := (B11.out.cell (p := ⟨p, 0, none⟩) hplX).trans c00.out
         have f0'' := (HRX.out.below B11.out).f 0
         obtain ⟨ao2, c2, hv2⟩ := own_shape hown2
         subst hv2
         have HW2 := Lib.hid hown2
         clear hgrow2 hwh2 hown2))
    all_goals
      have HZR := Lib.hid (q_end HRX.out B11.out HW2.out HEL.out HER.out HG2.out)
      have z4 : w11.heap[w.heap.size]? = some (.cells #[.int .i64 0, .string ⟨#[]⟩, .bool false, .int .i64 0] 48 (0, 0)) := by rw [B11.out.block _ (Array.getElem?_eq_some_iff.1 HX4.out).1]; exact HX4.out
      have z5 : w11.heap[w.heap.size + 1]? = some (.cells #[.int .i64 xk, .string xd, .bool xb, .int .i64 (xp : Int)] 48 (0, 0)) := by rw [B11.out.block _ (Array.getElem?_eq_some_iff.1 HX5.out).1]; exact HX5.out
      have n4 : w.heap.size ≠ p := by omega
      have n5 : w.heap.size + 1 ≠ p := by omega
      have HOZ : Hid (Only (fun b => b = p) w (w11.setCell ⟨p, 0, none⟩ (.slice ao2 (k + (n - (k + 1))) c2))) := (Only.of_below (fun b => b = p) (HBX.out.trans (B11.out.mono HBX.out.size)) (Nat.le_refl _)).setCell (p := ⟨p, 0, none⟩) (fun _ => rfl) _
      obtain ⟨Z, hZ⟩ : ∃ Z, w11.setCell ⟨p, 0, none⟩ (.slice ao2 (k + (n - (k + 1))) c2) = Z := ⟨_, rfl⟩
      have y4 : Z.heap[w.heap.size]? = some (.cells #[.int .i64 0, .string ⟨#[]⟩, .bool false, .int .i64 0] 48 (0, 0)) := by rw [← hZ, setQ_ne n4]; exact z4
      have y5 : Z.heap[w.heap.size + 1]? = some (.cells #[.int .i64 xk, .string xd, .bool xb, .int .i64 (xp : Int)] 48 (0, 0)) := by rw [← hZ, setQ_ne n5]; exact z5
      rw [hZ] at HZR HOZ ⊢
      have e0 : Z.cell? ⟨w.heap.size + 1, 0, none⟩ = some (.int .i64 xk) := by rw [cell_at y5]; rfl
      have e1 : Z.cell? ⟨w.heap.size + 1, 1, none⟩ = some (.string xd) := by rw [cell_at y5]; rfl
      have e2 : Z.cell? ⟨w.heap.size + 1, 2, none⟩ = some (.bool xb) := by rw [cell_at y5]; rfl
      have e3 : Z.cell? ⟨w.heap.size + 1, 3, none⟩ = some (.int .i64 (xp : Int)) := by rw [cell_at y5]; rfl
      have d0 : Z.cell? ⟨w.heap.size, 0, none⟩ = some (.int .i64 0) := by rw [cell_at y4]; rfl
      have d1 : Z.cell? ⟨w.heap.size, 1, none⟩ = some (.string ⟨#[]⟩) := by rw [cell_at y4]; rfl
      have d2 : Z.cell? ⟨w.heap.size, 2, none⟩ = some (.bool false) := by rw [cell_at y4]; rfl
      have d3 : Z.cell? ⟨w.heap.size, 3, none⟩ = some (.int .i64 0) := by rw [cell_at y4]; rfl
      have g0 := free_at y4 0; have g1 := free_at y4 1; have g2 := free_at y4 2; have g3 := free_at y4 3
      have HFin : Hid (∀ W, Only (fun b => b = w.heap.size) Z W → QL w W p (.slice (some ⟨g, 0, none⟩) n (k + 1)) (L.eraseIdx k) m mi) := fun W hW => ⟨_, HZR.out.kept hW (fun e => n4 e.symm) (fun q hq e => by have := HG2.out q hq; have := HBX.out.size; have := (Array.getElem?_eq_some_iff.1 HX5.out).1; omega), fun q hq => .inr (by have := HG2.out q hq; have := HBX.out.size; omega), (HOZ.out.trans hW (fun i hi e => by omega)).mono (fun _ _ h => .inl h)⟩
      have hYh : ((((Z.setCell ⟨w.heap.size, 0, none⟩ (.int .i64 xk)).setCell ⟨w.heap.size, 1, none⟩ (.string xd)).setCell ⟨w.heap.size, 2, none⟩ (.bool xb)).setCell ⟨w.heap.size, 3, none⟩ (.int .i64 (xp : Int))).heap[w.heap.size]? = some (.cells #[.int .i64 xk, .string xd, .bool xb, .int .i64 (xp : Int)] 48 (0, 0)) := by
        rw [heap_setCell_at (i := 3) (heap_setCell_at (i := 2) (heap_setCell_at (i := 1) (heap_setCell_at (i := 0) y4 (.int .i64 xk)) (.string xd)) (.bool xb)) (.int .i64 (xp : Int))]; rfl
      have HYH := Lib.hid hYh
      have HYO : Hid (Only (fun b => b = w.heap.size) Z ((((Z.setCell ⟨w.heap.size, 0, none⟩ (.int .i64 xk)).setCell ⟨w.heap.size, 1, none⟩ (.string xd)).setCell ⟨w.heap.size, 2, none⟩ (.bool xb)).setCell ⟨w.heap.size, 3, none⟩ (.int .i64 (xp : Int)))) := ((((Only.refl (fun b => b = w.heap.size) Z).setCell (p := ⟨w.heap.size, 0, none⟩) (fun _ => rfl) _).setCell (p := ⟨w.heap.size, 1, none⟩) (fun _ => rfl) _).setCell (p := ⟨w.heap.size, 2, none⟩) (fun _ => rfl) _).setCell (p := ⟨w.heap.size, 3, none⟩) (fun _ => rfl) _
      clear hZ z4 z5 y4 y5 c0 c0'' f0'' HZR HOZ B11 B10 HW1 HW2 hYh
      go_wp2
      refine bodyPost_ret (v := .agg #[.int .i64 xk, .string xd, .bool xb, .int .i64 (xp : Int)]) (results_cell_row rfl _ _ w.heap.size 48 _ _ _ rfl HYH.out Try.underlying48 rfl (by rw [hi]; simp [hz1])) rfl ⟨by rw [HAG.out], HFin.out _ HYO.out⟩
  · go_region_law (first
      | (refine step_append_where rfl (.tmp 14) (.tmp 20) 40 rfl 0 48 i0 (.agg #[.int .i64 0, .string ⟨#[]⟩, .bool false, .int .i64 0]) 4 40 Try.underlying40 hi hz0 hz1 HZ2.out rfl (by omega) (.slice (some ⟨X.heap.size, 0, none⟩) 0 0) 0 [] (by kernel_rfl) ?own ⟨g, 0, none⟩ k cap N1 (by kernel_rfl) HLn1.out ?news HO1.out (by unfold maxLen; omega) (by omega) (Nat.zero_le _) ?_
         case own => exact World.ownsRow_lit X #[] 0 (Nat.zero_le _) (Nat.zero_le _) rfl
         case news => exact HN1.out _ (((Below.refl _ _).alloc (Nat.le_refl _) _).drew)
         intro v1 w10 hown hgrow hwh
         have B10 : Hid (Below X.heap.size X w10) := (((Below.refl _ _).alloc (Nat.le_refl _) _).drew).grown hgrow (by simp) (fun q hq => by cases hq; exact Nat.le_refl _)
         have ge1 : ∀ q, v1.ownBlock = some q → X.heap.size ≤ q := fun q hq => by
           rcases hwh q hq with h | h
           · cases h; exact Nat.le_refl _
           · simp at h; omega
         rw [Nat.zero_add, List.nil_append] at hown
         obtain ⟨ao1, c1, hv1⟩ := own_shape hown
         subst hv1
         have c0 := (B10.out.cell (p := ⟨p, 0, none⟩) hplX).trans c0
         have HG1 := Lib.hid ge1; have HW1 := Lib.hid hown
         clear hgrow hwh hown ge1)
      | (refine step_append_where rfl (.tmp 21) (.tmp 28) 40 rfl 0 48 i0 (.agg #[.int .i64 0, .string ⟨#[]⟩, .bool false, .int .i64 0]) 4 40 Try.underlying40 hi hz0 hz1 HZ2.out rfl (by omega) (.slice ao1 k c1) k N1 (by kernel_rfl) ?own2 ⟨g, (k + 1) * 4, none⟩ (n - (k + 1)) (cap - (k + 1)) N2 (by kernel_rfl) HLn2.out ?news2 HO2.out (by unfold maxLen; omega) (by omega) (Nat.zero_le _) ?_
         case own2 => exact HW1.out
         case news2 => exact HN2.out _ B10.out
         intro v2 w11 hown2 hgrow2 hwh2
         have B11 : Hid (Below X.heap.size X w11) := B10.out.grown hgrow2 B10.out.size HG1.out
         have HG2 : Hid (∀ q, v2.ownBlock = some q → X.heap.size ≤ q) := fun q hq => by
           rcases hwh2 q hq with h | h
           · exact HG1.out q h
           · exact Nat.le_trans B10.out.size h
         have c0'' := (B11.out.cell (p := ⟨p, 0, none⟩) hplX).trans c00.out
         have f0'' := (HRX.out.below B11.out).f 0
         obtain ⟨ao2, c2, hv2⟩ := own_shape hown2
         subst hv2
         have HW2 := Lib.hid hown2
         clear hgrow2 hwh2 hown2))
    all_goals
      have HZR := Lib.hid (q_end HRX.out B11.out HW2.out HEL.out HER.out HG2.out)
      have z4 : w11.heap[w.heap.size]? = some (.cells #[.int .i64 0, .string ⟨#[]⟩, .bool false, .int .i64 0] 48 (0, 0)) := by rw [B11.out.block _ (Array.getElem?_eq_some_iff.1 HX4.out).1]; exact HX4.out
      have z5 : w11.heap[w.heap.size + 1]? = some (.cells #[.int .i64 xk, .string xd, .bool xb, .int .i64 (xp : Int)] 48 (0, 0)) := by rw [B11.out.block _ (Array.getElem?_eq_some_iff.1 HX5.out).1]; exact HX5.out
      have n4 : w.heap.size ≠ p := by omega
      have n5 : w.heap.size + 1 ≠ p := by omega
      have HOZ : Hid (Only (fun b => b = p) w (w11.setCell ⟨p, 0, none⟩ (.slice ao2 (k + (n - (k + 1))) c2))) := (Only.of_below (fun b => b = p) (HBX.out.trans (B11.out.mono HBX.out.size)) (Nat.le_refl _)).setCell (p := ⟨p, 0, none⟩) (fun _ => rfl) _
      obtain ⟨Z, hZ⟩ : ∃ Z, w11.setCell ⟨p, 0, none⟩ (.slice ao2 (k + (n - (k + 1))) c2) = Z := ⟨_, rfl⟩
      have y4 : Z.heap[w.heap.size]? = some (.cells #[.int .i64 0, .string ⟨#[]⟩, .bool false, .int .i64 0] 48 (0, 0)) := by rw [← hZ, setQ_ne n4]; exact z4
      have y5 : Z.heap[w.heap.size + 1]? = some (.cells #[.int .i64 xk, .string xd, .bool xb, .int .i64 (xp : Int)] 48 (0, 0)) := by rw [← hZ, setQ_ne n5]; exact z5
      rw [hZ] at HZR HOZ ⊢
      have e0 : Z.cell? ⟨w.heap.size + 1, 0, none⟩ = some (.int .i64 xk) := by rw [cell_at y5]; rfl
      have e1 : Z.cell? ⟨w.heap.size + 1, 1, none⟩ = some (.string xd) := by rw [cell_at y5]; rfl
      have e2 : Z.cell? ⟨w.heap.size + 1, 2, none⟩ = some (.bool xb) := by rw [cell_at y5]; rfl
      have e3 : Z.cell? ⟨w.heap.size + 1, 3, none⟩ = some (.int .i64 (xp : Int)) := by rw [cell_at y5]; rfl
      have d0 : Z.cell? ⟨w.heap.size, 0, none⟩ = some (.int .i64 0) := by rw [cell_at y4]; rfl
      have d1 : Z.cell? ⟨w.heap.size, 1, none⟩ = some (.string ⟨#[]⟩) := by rw [cell_at y4]; rfl
      have d2 : Z.cell? ⟨w.heap.size, 2, none⟩ = some (.bool false) := by rw [cell_at y4]; rfl
      have d3 : Z.cell? ⟨w.heap.size, 3, none⟩ = some (.int .i64 0) := by rw [cell_at y4]; rfl
      have g0 := free_at y4 0; have g1 := free_at y4 1; have g2 := free_at y4 2; have g3 := free_at y4 3
      have HFin : Hid (∀ W, Only (fun b => b = w.heap.size) Z W → QL w W p (.slice (some ⟨g, 0, none⟩) n cap) (L.eraseIdx k) m mi) := fun W hW => ⟨_, HZR.out.kept hW (fun e => n4 e.symm) (fun q hq e => by have := HG2.out q hq; have := HBX.out.size; have := (Array.getElem?_eq_some_iff.1 HX5.out).1; omega), fun q hq => .inr (by have := HG2.out q hq; have := HBX.out.size; omega), (HOZ.out.trans hW (fun i hi e => by omega)).mono (fun _ _ h => .inl h)⟩
      have hYh : ((((Z.setCell ⟨w.heap.size, 0, none⟩ (.int .i64 xk)).setCell ⟨w.heap.size, 1, none⟩ (.string xd)).setCell ⟨w.heap.size, 2, none⟩ (.bool xb)).setCell ⟨w.heap.size, 3, none⟩ (.int .i64 (xp : Int))).heap[w.heap.size]? = some (.cells #[.int .i64 xk, .string xd, .bool xb, .int .i64 (xp : Int)] 48 (0, 0)) := by
        rw [heap_setCell_at (i := 3) (heap_setCell_at (i := 2) (heap_setCell_at (i := 1) (heap_setCell_at (i := 0) y4 (.int .i64 xk)) (.string xd)) (.bool xb)) (.int .i64 (xp : Int))]; rfl
      have HYH := Lib.hid hYh
      have HYO : Hid (Only (fun b => b = w.heap.size) Z ((((Z.setCell ⟨w.heap.size, 0, none⟩ (.int .i64 xk)).setCell ⟨w.heap.size, 1, none⟩ (.string xd)).setCell ⟨w.heap.size, 2, none⟩ (.bool xb)).setCell ⟨w.heap.size, 3, none⟩ (.int .i64 (xp : Int)))) := ((((Only.refl (fun b => b = w.heap.size) Z).setCell (p := ⟨w.heap.size, 0, none⟩) (fun _ => rfl) _).setCell (p := ⟨w.heap.size, 1, none⟩) (fun _ => rfl) _).setCell (p := ⟨w.heap.size, 2, none⟩) (fun _ => rfl) _).setCell (p := ⟨w.heap.size, 3, none⟩) (fun _ => rfl) _
      clear hZ z4 z5 y4 y5 c0 c0'' f0'' HZR HOZ B11 B10 HW1 HW2 hYh
      go_wp2
      refine bodyPost_ret (v := .agg #[.int .i64 xk, .string xd, .bool xb, .int .i64 (xp : Int)]) (results_cell_row rfl _ _ w.heap.size 48 _ _ _ rfl HYH.out Try.underlying48 rfl (by rw [hi]; simp [hz1])) rfl ⟨by rw [HAG.out], HFin.out _ HYO.out⟩
end
end Go.Proofs.Yteeoglfgilabaaa
/- The document's cache: what Pin, Unpin and Clean answer and leave behind: the same as in plain lists. -/
namespace Go.Proofs.Yteeoglfgilabaaa
open Go.RowKit

theorem own_set {w : World} {base : Nat} {e : TypeId} {size g n cap : Nat} {xs : List Value} (h : w.ownsRow base e size (.slice (some ⟨g, 0, none⟩) n cap) n xs) (i : Nat) (u : Value) : (w.setCell ⟨g, i, none⟩ u).ownsRow base e size (.slice (some ⟨g, 0, none⟩) n cap) n (xs.set i u) := by
  refine ⟨by rw [List.length_set]; exact h.1, ?_⟩
  rcases h.2 with ⟨h1, _⟩ | ⟨g', cap', cur, hv, hB, hg, hc, hm, hsz, htk⟩
  · cases h1
  · obtain ⟨rfl, rfl⟩ : g = g' ∧ cap = cap' := by simpa using hv
    exact .inr ⟨g, cap, cur.setIfInBounds i u, rfl, hB, heap_setCell_at hg u, hc, hm, by simpa using hsz, by rw [Array.toList_setIfInBounds, ← htk, List.take_set]⟩
theorem flatQ_pins (L : List Kp) (k : Nat) (hk : k < L.length) (q : Nat) : (flatQ L).set (k * 4 + 3) (.int .i64 (q : Int)) = flatQ (L.set k { L[k] with pins := q }) := by
  induction L generalizing k with
  | nil => cases hk
  | cons x r ih =>
    cases k with
    | zero => rfl
    | succ j =>
      have := ih j (by simpa using hk)
      rw [show (j + 1) * 4 + 3 = j * 4 + 3 + 1 + 1 + 1 + 1 by omega]
      show _ :: _ :: _ :: _ :: (flatQ r).set (j * 4 + 3) _ = _ :: _ :: _ :: _ :: flatQ _
      rw [this]
      rfl
theorem flatQ_dirty (L : List Kp) (k : Nat) (hk : k < L.length) (b : Bool) : (flatQ L).set (k * 4 + 2) (.bool b) = flatQ (L.set k { L[k] with dirty := b }) := by
  induction L generalizing k with
  | nil => cases hk
  | cons x r ih =>
    cases k with
    | zero => rfl
    | succ j =>
      have := ih j (by simpa using hk)
      rw [show (j + 1) * 4 + 2 = j * 4 + 2 + 1 + 1 + 1 + 1 by omega]
      show _ :: _ :: _ :: _ :: (flatQ r).set (j * 4 + 2) _ = _ :: _ :: _ :: _ :: flatQ _
      rw [this]
      rfl
/-- Block p is the document's cache, and says C. -/
def RQ (w : World) (p : Nat) (v : Value) (C : CS) : Prop := R3 w p v C.L (C.most : Int) (C.misses : Int)
def QC (w w' : World) (p : Nat) (v : Value) (C : CS) : Prop := QL w w' p v C.L (C.most : Int) (C.misses : Int)
section
variable {w : World} {p : Nat} {v : Value} {C : CS} {L : List Kp} {m mi : Int}
/-- One cell of the row is set. -/
theorem R3.set (h : R3 w p v L m mi) {g cap : Nat} (hv : v = .slice (some ⟨g, 0, none⟩) L.length cap) (i : Nat) (u : Value) {L' : List Kp} (hn : L'.length = L.length) (hL : (flatQ L).set i u = flatQ L') : QL w (w.setCell ⟨g, i, none⟩ u) p v L' m mi := by
  subst hv
  have hgp : g ≠ p := fun e => h.rp (by rw [e]; rfl)
  refine ⟨_, ⟨?_, ?_, h.rp⟩, fun _ => .inl, (Only.refl _ w).setCell (p := ⟨g, i, none⟩) (fun _ => .inr rfl) _⟩
  · rw [show (w.setCell ⟨g, i, none⟩ u).heap[p]? = w.heap[p]? by simp [World.setCell, Array.getElem?_modify, hgp]]; exact h.hp
  · rw [← hL]
    have := own_set h.hr i u
    rwa [← hn] at this ⊢
theorem ok_short (ok : C.Ok) : C.L.length ≤ 4000 := by have := ok.len; have := ok.m1; omega

set_option maxRecDepth 100000 in
set_option maxHeartbeats 1000000 in
theorem qpin_any (i : Int) (h : RQ w p v C) (ok : C.Ok) : Calls Try.prog 31 #[.pointer (some ⟨p, 0, none⟩), .int .i64 i] w fun e w' => e = .returned (.int .i64 (C.pin i).1) ∧ QC w w' p v (C.pin i).2 := by
  have CF := Lib.hid (qfind_any i h (ok_short ok))
  have H := Lib.hid h
  have c0 := R3.c0 h
  unfold pos6 at CF
  cases hf : fx C.L i with
  | none =>
    have e : C.pin i = (10, C) := by unfold CS.pin; rw [hf]
    rw [e]
    rw [hf] at CF
    clear h hf e
    go_enter Try.func31, Try.ntmps31
    go_wp2_with fail
    refine CF.out.mono ?_
    rintro e w1 ⟨rfl, rfl⟩
    go_wp2
    go_ret
    exact ⟨rfl, QL.refl H.out⟩
  | some ky =>
    obtain ⟨k, y⟩ := ky
    obtain ⟨hk, hy, hkey, _⟩ := fx_some hf
    have e : C.pin i = (0, { C with L := C.L.set k { y with pins := y.pins + 1 } }) := by unfold CS.pin; rw [hf]
    rw [e]
    rw [hf] at CF
    simp only at CF
    obtain ⟨g, cap, hv, hgp, hgl, hcl, hcm, hcs⟩ := R3.row h (by omega)
    obtain ⟨_, _, _, x3⟩ := hcs k hk
    have hpn := ok.pn y (fx_mem hf)
    have hms : C.L.length ≤ 4000 := ok_short ok
    have HFin : Hid (QC w (w.setCell ⟨g, k * 4 + 3, none⟩ (.int .i64 ((y.pins : Int) + 1))) p v { C with L := C.L.set k { y with pins := y.pins + 1 } }) := by
      refine R3.set h hv _ _ (by simp) ?_
      have := flatQ_pins C.L k hk (y.pins + 1)
      rw [hy] at this
      rw [← this]
      simp
    have fz : w.frozen? ⟨g, k * 4 + 3, none⟩ = false := by
      have hr := R3.hr h
      rw [hv] at hr
      exact World.ownsRow.frozenAt hr _
    rw [hy] at x3
    subst hv
    obtain ⟨n, hn⟩ : ∃ n, C.L.length = n := ⟨_, rfl⟩
    rw [hn] at c0 hk hms hcl HFin ⊢
    have hkz : (k : Int) < (n : Int) := by omega
    clear h hf e hcs hn hy hkey
    generalize y.pins = q at *
    go_enter Try.func31, Try.ntmps31
    go_wp2_with fail
    refine CF.out.mono ?_
    rintro e w1 ⟨rfl, rfl⟩
    go_wp2
    go_ret
    exact ⟨rfl, HFin.out⟩
set_option maxRecDepth 100000 in
set_option maxHeartbeats 1000000 in
theorem qunpin_any (i : Int) (h : RQ w p v C) (ok : C.Ok) : Calls Try.prog 32 #[.pointer (some ⟨p, 0, none⟩), .int .i64 i] w fun e w' => e = .returned (.int .i64 (C.unpin i).1) ∧ QC w w' p v (C.unpin i).2 := by
  have CF := Lib.hid (qfind_any i h (ok_short ok))
  have H := Lib.hid h
  have c0 := R3.c0 h
  unfold pos6 at CF
  cases hf : fx C.L i with
  | none =>
    have e : C.unpin i = (10, C) := by unfold CS.unpin; rw [hf]
    rw [e]
    rw [hf] at CF
    clear h hf e
    go_enter Try.func32, Try.ntmps32
    go_wp2_with fail
    refine CF.out.mono ?_
    rintro e w1 ⟨rfl, rfl⟩
    go_wp2
    go_ret
    exact ⟨rfl, QL.refl H.out⟩
  | some ky =>
    obtain ⟨k, y⟩ := ky
    obtain ⟨hk, hy, hkey, _⟩ := fx_some hf
    rw [hf] at CF
    simp only at CF
    obtain ⟨g, cap, hv, hgp, hgl, hcl, hcm, hcs⟩ := R3.row h (by omega)
    obtain ⟨_, _, _, x3⟩ := hcs k hk
    have hpn := ok.pn y (fx_mem hf)
    have hms : C.L.length ≤ 4000 := ok_short ok
    have fz : w.frozen? ⟨g, k * 4 + 3, none⟩ = false := by
      have hr := R3.hr h
      rw [hv] at hr
      exact World.ownsRow.frozenAt hr _
    rw [hy] at x3
    by_cases h0 : y.pins = 0
    · have e : C.unpin i = (14, C) := by unfold CS.unpin; rw [hf]; simp only; rw [if_pos h0]
      rw [e]
      rw [h0] at x3
      subst hv
      obtain ⟨n, hn⟩ : ∃ n, C.L.length = n := ⟨_, rfl⟩
      have HQ : Hid (QC w w p (.slice (some ⟨g, 0, none⟩) C.L.length cap) C) := QL.refl H.out
      rw [hn] at c0 hk hms hcl HQ ⊢
      have hkz : (k : Int) < (n : Int) := by omega
      clear h hf e hcs hn hy hkey h0
      go_enter Try.func32, Try.ntmps32
      go_wp2_with fail
      refine CF.out.mono ?_
      rintro e w1 ⟨rfl, rfl⟩
      go_wp2
      go_ret
      exact ⟨rfl, HQ.out⟩
    · have e : C.unpin i = (0, { C with L := C.L.set k { y with pins := y.pins - 1 } }) := by unfold CS.unpin; rw [hf]; simp only; rw [if_neg h0]
      rw [e]
      have HFin : Hid (QC w (w.setCell ⟨g, k * 4 + 3, none⟩ (.int .i64 ((y.pins : Int) - 1))) p v { C with L := C.L.set k { y with pins := y.pins - 1 } }) := by
        refine R3.set h hv _ _ (by simp) ?_
        have := flatQ_pins C.L k hk (y.pins - 1)
        rw [hy] at this
        rw [← this, show ((y.pins - 1 : Nat) : Int) = (y.pins : Int) - 1 by omega]
      subst hv
      obtain ⟨n, hn⟩ : ∃ n, C.L.length = n := ⟨_, rfl⟩
      rw [hn] at c0 hk hms hcl HFin ⊢
      have hkz : (k : Int) < (n : Int) := by omega
      have hq0 : ((y.pins : Int) == 0) = false := beq_eq_false_iff_ne.2 (by omega)
      clear h hf e hcs hn hy hkey
      generalize y.pins = q at *
      go_enter Try.func32, Try.ntmps32
      go_wp2_with fail
      refine CF.out.mono ?_
      rintro e w1 ⟨rfl, rfl⟩
      go_wp2
      go_ret
      exact ⟨rfl, HFin.out⟩

def cln (x : Kp) : Kp := { x with dirty := false }
theorem clean_step (L : List Kp) (k : Nat) (hk : k < L.length) : ((L.take k).map cln ++ L.drop k).set k (cln (((L.take k).map cln ++ L.drop k)[k]'(by simp; omega))) = (L.take (k + 1)).map cln ++ L.drop (k + 1) := by
  apply List.ext_getElem
  · simp; omega
  · intro i h1 h2
    simp only [List.length_set, List.length_append, List.length_map, List.length_take, List.length_drop] at h1 h2
    by_cases e : i = k
    · subst e
      simp [List.getElem_append, show min i L.length = i by omega, show min (i + 1) L.length = i + 1 by omega]
    · rw [List.getElem_set_ne (by omega)]
      by_cases hlt : i < k
      · simp [List.getElem_append, show i < min k L.length by omega, show i < min (k + 1) L.length by omega]
      · simp [List.getElem_append, show ¬ i < min k L.length by omega, show ¬ i < min (k + 1) L.length by omega, show k + (i - min k L.length) = i by omega, show k + 1 + (i - min (k + 1) L.length) = i by omega]
set_option maxRecDepth 100000 in
set_option maxHeartbeats 1000000 in
theorem qclean_any (h : RQ w p v C) (ok : C.Ok) : Calls Try.prog 33 #[.pointer (some ⟨p, 0, none⟩)] w fun e w' => e = .returned (.tuple #[]) ∧ QC w w' p v C.clean := by
  have H := Lib.hid h
  have c0 := R3.c0 h
  have hms : C.L.length ≤ 4000 := ok_short ok
  have hsh := own_shape (R3.hr h)
  obtain ⟨ao, cap, hv⟩ := hsh
  obtain ⟨n, hn⟩ : ∃ n, C.L.length = n := ⟨_, rfl⟩
  have HN := Lib.hid hn
  have HV := Lib.hid hv
  have HI : Hid (∀ wr, QL w wr p v ((C.L.take n).map cln ++ C.L.drop n) (C.most : Int) (C.misses : Int) → QC w wr p v C.clean) := fun wr hq => by
    rw [← HN.out, List.take_length, List.drop_length, List.append_nil] at hq
    exact hq
  rw [hn] at hms
  have hd0 : Hid (QL w w p v ((C.L.take 0).map cln ++ C.L.drop 0) (C.most : Int) (C.misses : Int)) := QL.refl H.out
  clear h ok hn hv c0
  go_enter Try.func33, Try.ntmps33
  go_wp2_with fail
  go_loopw [2] (fun t wr => ∃ k : Nat, k ≤ n ∧ t = .int .i64 (k : Int) ∧ Hid (QL w wr p v ((C.L.take k).map cln ++ C.L.drop k) (C.most : Int) (C.misses : Int))) (fun t _ => n - (intOf t).toNat)
  case atStart => exact ⟨0, Nat.zero_le _, rfl, hd0⟩
  case round =>
    clear hd0
    obtain ⟨k, hk, rfl, HQ⟩ := hrel
    obtain ⟨v', h3, hown, hon⟩ := HQ.out
    have hlen : ((C.L.take k).map cln ++ C.L.drop k).length = n := by simp; have := HN.out; omega
    have c0 := h3.c0
    obtain ⟨ao', cap', hv'⟩ := own_shape h3.hr
    by_cases hlt : k < n
    · have hkz : (k : Int) < (n : Int) := by omega
      obtain ⟨g, cap2, hv2, hgp, hgl, hcl, hcm, hcs⟩ := h3.row (by omega)
      have hkl : k < ((C.L.take k).map cln ++ C.L.drop k).length := by omega
      have x2 := (hcs k hkl).2.2.1
      have fz : wr.frozen? ⟨g, k * 4 + 2, none⟩ = false := by
        have hr := h3.hr
        rw [hv2] at hr
        exact World.ownsRow.frozenAt hr _
      have HFin : Hid (QL w (wr.setCell ⟨g, k * 4 + 2, none⟩ (.bool false)) p v ((C.L.take (k + 1)).map cln ++ C.L.drop (k + 1)) (C.most : Int) (C.misses : Int)) := by
        have h4 := h3.set hv2 (k * 4 + 2) (.bool false) (by simp) (flatQ_dirty _ k hkl false)
        rw [show ∀ x : Kp, ({ x with dirty := false } : Kp) = cln x from fun _ => rfl, clean_step C.L k (by have := HN.out; omega)] at h4
        exact QL.next hown hon h4
      rw [hlen] at hv2 hcl
      subst hv2
      generalize (((C.L.take k).map cln ++ C.L.drop k)[k]'hkl).dirty = bb at *
      clear hcs h3 hown hon HQ hv' hlen hkl
      go_wp2
      go_roundw
      case rel => exact ⟨k + 1, by omega, by go_num, HFin⟩
      case measure => simp [intOf]; omega
    · obtain rfl : k = n := by omega
      have hkz : ¬ (k : Int) < (k : Int) := by omega
      have HFin := Lib.hid (HI.out _ HQ.out)
      rw [hlen] at hv'
      subst hv'
      clear h3 hown hon HQ hlen
      go_wp2
      go_end0
      exact ⟨rfl, HFin.out⟩
end
end Go.Proofs.Yteeoglfgilabaaa
/- The document's cache: what room answers and leaves behind. -/
namespace Go.Proofs.Yteeoglfgilabaaa
open Go.RowKit

theorem lfQ_none {L : List Kp} (hb : ∀ j (hj : j < L.length), L[j].free = false) : lf L = none := by
  induction L with
  | nil => rfl
  | cons x r ih =>
    unfold lf
    rw [ih (fun j hj => hb (j + 1) (by simpa using hj))]
    have h0 : x.free = false := hb 0 (by simp)
    simp [h0]
theorem lfQ_some {L : List Kp} {k : Nat} (hk : k < L.length) (h : L[k].free = true) (hb : ∀ j (hj : j < L.length), k < j → L[j].free = false) : lf L = some k := by
  induction L generalizing k with
  | nil => cases hk
  | cons x r ih =>
    unfold lf
    cases k with
    | zero =>
      rw [lfQ_none (fun j hj => hb (j + 1) (by simpa using hj) (by omega))]
      have h0 : x.free = true := h
      simp [h0]
    | succ j =>
      rw [ih (k := j) (by simpa using hk) (by simpa using h) (fun t ht hjt => hb (t + 1) (by simpa using ht) (by omega))]
section
variable {w : World} {p : Nat} {v : Value} {L : List Kp} {mi : Int}
set_option maxRecDepth 100000 in
set_option maxHeartbeats 2000000 in
theorem qroom_any (most : Nat) (h : R3 w p v L (most : Int) mi) (hl : L.length ≤ 4000) (hpn : ∀ x ∈ L, x.pins ≤ 1000000) : Calls Try.prog 48 #[.pointer (some ⟨p, 0, none⟩)] w fun e w' => e = .returned (.bool (room L most).isSome) ∧ QL w w' p v ((room L most).getD L) (most : Int) mi := by
  have H := Lib.hid h
  have c0 := h.c0; have c1 := h.c1
  obtain ⟨ao, cap, hv⟩ := own_shape h.hr
  obtain ⟨n, hn⟩ : ∃ n, L.length = n := ⟨_, rfl⟩
  have HN := Lib.hid hn
  by_cases hlm : L.length < most
  · have e : room L most = some L := by unfold room; rw [if_pos hlm]
    rw [e]
    rw [hn] at hlm hl hv
    have hlz : (n : Int) < (most : Int) := by omega
    subst hv
    clear h hpn hn e
    go_enter Try.func48, Try.ntmps48
    go_wp2_with fail
    go_quiet (fail)
    have HFin : Hid (QL w (w.drewN nq) p (.slice ao n cap) L (most : Int) mi) := ⟨_, H.out.below (below_drewN (Below.refl _ _) nq), fun _ => .inl, Only.of_below _ (below_drewN (Below.refl _ _) nq) (Nat.le_refl _)⟩
    go_wp2
    go_ret
    exact ⟨rfl, HFin.out⟩
  · have e : room L most = (lf L).map fun k => L.eraseIdx k := by unfold room; rw [if_neg hlm]
    rw [e]
    have HY : Hid (∀ k (hk : k < L.length), L[k].free = true → (∀ j (hj : j < L.length), k < j → L[j].free = false) → (lf L).map (fun k => L.eraseIdx k) = some (L.eraseIdx k)) := fun k hk h1 h2 => by
      rw [lfQ_some hk h1 h2]; rfl
    have HNo : Hid ((∀ j (hj : j < L.length), L[j].free = false) → (lf L).map (fun k => L.eraseIdx k) = none) := fun h2 => by
      rw [lfQ_none h2]; rfl
    have CT : Hid (∀ W, Below w.heap.size w W → ∀ k (hk : k < L.length), Calls Try.prog 47 #[.pointer (some ⟨p, 0, none⟩), .int .i64 (k : Int)] W fun e w' => e = .returned L[k].agg ∧ QL W w' p v (L.eraseIdx k) (most : Int) mi) := fun W hW k hk => qtake_any k hk (h.below hW) hl
    have HRow : Hid (∀ W, Below w.heap.size w W → ∀ k (hk : k < L.length), ∃ g, ao = some ⟨g, 0, none⟩ ∧ W.cell? ⟨g, k * 4 + 2, none⟩ = some (.bool L[k].dirty) ∧ W.cell? ⟨g, k * 4 + 3, none⟩ = some (.int .i64 (L[k].pins : Int))) := fun W hW k hk => by
      obtain ⟨g, cap', hv', _, _, _, _, hc⟩ := (h.below hW).row (by omega)
      rw [hv] at hv'
      obtain ⟨rfl, _⟩ : ao = some ⟨g, 0, none⟩ ∧ cap = cap' := by simpa using hv'
      exact ⟨g, rfl, (hc k hk).2.2.1, (hc k hk).2.2.2⟩
    have HPn : Hid (∀ k (hk : k < L.length), L[k].pins ≤ 1000000) := fun k hk => hpn _ (List.getElem_mem _)
    have HFr : Hid (∀ k (hk : k < L.length), L[k].free = (!L[k].dirty && L[k].pins == 0)) := fun k hk => rfl
    have HC0 : Hid (∀ W, Below w.heap.size w W → W.cell? ⟨p, 0, none⟩ = some v) := fun W hW => (h.below hW).c0
    have HV := Lib.hid hv
    rw [hn] at hlm hl hv
    have hlz : ¬ (n : Int) < (most : Int) := by omega
    rw [hv] at c0 ⊢
    have HC1 : Hid (∀ W, Below w.heap.size w W → W.cell? ⟨p, 0, none⟩ = some (.slice ao n cap)) := fun W hW => by rw [HC0.out W hW, hv]
    generalize hX : (lf L).map (fun k => L.eraseIdx k) = X at *
    have HQ0 : Hid (∀ W, Below w.heap.size w W → QL w W p (.slice ao n cap) L (most : Int) mi) := fun W hW => ⟨_, by rw [← hv]; exact H.out.below hW, fun _ => .inl, Only.of_below _ hW (Nat.le_refl _)⟩
    rw [hv] at CT
    clear h hpn hn e hX hv HC0 hlm
    go_enter Try.func48, Try.ntmps48
    go_wp2_with fail
    go_quiet (fail)
    have HB0 : Hid (Below w.heap.size w (w.drewN nq)) := below_drewN (Below.refl _ _) nq
    have c0' := HC1.out _ HB0.out
    go_wp2_with fail
    go_loopw [3] (fun t wr => ∃ m : Nat, m ≤ n ∧ t = .int .i64 ((m : Int) - 1) ∧ Hid (∀ j (hj : j < L.length), m ≤ j → L[j].free = false) ∧ Hid (Below w.heap.size w wr)) (fun t _ => (intOf t + 1).toNat)
    case atStart => exact ⟨n, Nat.le_refl _, rfl, fun j hj hm => absurd hj (by have := HN.out; omega), HB0⟩
    case round =>
      obtain ⟨m, hm, rfl, HP, HB⟩ := hrel
      have c0'' := HC1.out _ HB.out
      cases m with
      | zero =>
        have HE := Lib.hid (HNo.out (fun j hj => HP.out j hj (Nat.zero_le _)))
        have HF := Lib.hid (HQ0.out _ HB.out)
        go_wp2
        go_ret
        exact ⟨by rw [HE.out]; rfl, by rw [HE.out]; exact HF.out⟩
      | succ k =>
        rw [show (((k + 1 : Nat) : Int) - 1) = (k : Int) by omega]
        have hk : k < L.length := by have := HN.out; omega
        have hkz : (k : Int) < (n : Int) := by omega
        have CTk := Lib.hid (CT.out _ HB.out k hk)
        obtain ⟨g, rfl, x2, x3⟩ := HRow.out _ HB.out k hk
        have hpk := HPn.out k hk
        have hfr := HFr.out k hk
        by_cases hf : L[k].free = true
        · have HE := Lib.hid (HY.out k hk hf (fun j hj hkj => HP.out j hj (by omega)))
          rw [hf] at hfr
          simp only [Bool.true_eq, Bool.and_eq_true, Bool.not_eq_true', beq_iff_eq] at hfr
          obtain ⟨hd, hp0⟩ := hfr
          rw [hd] at x2
          rw [hp0] at x3
          clear hf hd hp0 hpk HPn HRow CT HFr
          go_wp2_with fail
          refine CTk.out.mono ?_
          rintro e w5 ⟨rfl, hq⟩
          have HF : Hid (QL w w5 p (.slice (some ⟨g, 0, none⟩) n cap) (L.eraseIdx k) (most : Int) mi) := QL.next (fun _ => .inl) (Only.of_below _ HB.out (Nat.le_refl _)) hq
          clear hq CTk
          go_wp2
          go_ret
          exact ⟨by rw [HE.out]; rfl, by rw [HE.out]; exact HF.out⟩
        · have hff : L[k].free = false := by simpa using hf
          have HP2 : Hid (∀ j (hj : j < L.length), k ≤ j → L[j].free = false) := fun j hj hkj => by
            by_cases e : j = k
            · subst e; exact hff
            · exact HP.out j hj (by omega)
          rw [hff] at hfr
          clear hf hff CTk CT HRow HFr HPn
          generalize L[k].dirty = bd at *
          generalize L[k].pins = q at *
          cases bd
          · have hq0 : ((q : Int) == 0) = false := by
              have : (q == 0) = false := by simpa using hfr.symm
              exact beq_eq_false_iff_ne.2 (by have := beq_eq_false_iff_ne.1 this; omega)
            clear hfr
            go_wp2
            go_roundw
            case rel => exact ⟨k, by omega, by go_num, HP2, HB⟩
            case measure => simp [intOf]
          · clear hfr
            go_wp2
            go_roundw
            case rel => exact ⟨k, by omega, by go_num, HP2, HB⟩
            case measure => simp [intOf]
end
end Go.Proofs.Yteeoglfgilabaaa
/- The document's cache: what first answers and leaves behind. -/
namespace Go.Proofs.Yteeoglfgilabaaa
open Go.RowKit

section
variable {w : World} {p : Nat} {v : Value} {L : List Kp} {m mi : Int}
theorem setR_ne {w : World} {a b i : Nat} {v : Value} (h : b ≠ a) : (w.setCell ⟨a, i, none⟩ v).heap[b]? = w.heap[b]? := by
  simp [World.setCell, Array.getElem?_modify, Ne.symm h]
theorem r_end {X w11 : World} {p k2 : Nat} {v v2 : Value} {L L' : List Kp} {m mi : Int} {N : List Value} (HRX : R3 X p v L m mi) (B11 : Below X.heap.size X w11) (hw : w11.ownsRow 0 48 4 v2 k2 N) (hn : L'.length = k2) (hN : N = flatQ L') (hg : ∀ q, v2.ownBlock = some q → X.heap.size ≤ q) : R3 (w11.setCell ⟨p, 0, none⟩ v2) p v2 L' m mi := by
  have hlt := HRX.lt
  have hne : v2.ownBlock ≠ some p := fun e => by have := hg p e; omega
  subst hn hN
  exact ⟨by rw [heap_setCell_at (by rw [B11.block p hlt]; exact HRX.hp)]; rfl, ownsRow_setCell_other hw (by simpa using hne) _, hne⟩
/-- The row's pieces, as what is appended. -/
theorem R3.news (h : R3 w p v L m mi) : ∃ ad c, (v = .slice (some ad) L.length c ∨ (v = .slice none L.length c ∧ L = [])) ∧ ∀ j u, (flatQ L)[j]? = some u → w.cell? (ad.add j) = some u := by
  rcases h.hr.2 with ⟨h1, h2⟩ | ⟨g, cap, cur, rfl, hB, hg, hc, hc2, hrest⟩
  · have : L = [] := List.eq_nil_of_length_eq_zero (by omega)
    subst this
    exact ⟨⟨0, 0, none⟩, 0, .inr ⟨h1, rfl⟩, fun j u hu => by simp [flatQ] at hu⟩
  · exact ⟨⟨g, 0, none⟩, cap, .inl rfl, fun j u hu => h.hr.cells (g := g) rfl j u hu⟩

set_option maxRecDepth 100000 in
set_option maxHeartbeats 2000000 in
theorem qfirst_any (x : Kp) (h : R3 w p v L m mi) (hl : L.length ≤ 4000) : Calls Try.prog 49 #[.pointer (some ⟨p, 0, none⟩), x.agg] w fun e w' => e = .returned (.tuple #[]) ∧ QL w w' p v (x :: L) m mi := by
  obtain ⟨i0, hi, hz0, hz1, hz2⟩ := info_parts Try.infoK
  have HZ2 := Lib.hid hz2
  clear hz2
  have H := Lib.hid h
  have c0 := h.c0
  have hpl := h.lt
  obtain ⟨ad, c, hv, hnews⟩ := h.news
  clear h
  have HON := Lib.hid (flatQ_one L); have HLN := Lib.hid (flatQ_length L)
  obtain ⟨xk, xd, xb, xp⟩ := x
  have HEX : Hid ([Value.int .i64 xk, .string xd, .bool xb, .int .i64 (xp : Int)] ++ flatQ L = flatQ (⟨xk, xd, xb, xp⟩ :: L)) := rfl
  have HEL : Hid ((⟨xk, xd, xb, xp⟩ :: L : List Kp).length = 1 + L.length) := by show _ = _; rw [List.length_cons]; omega
  show Calls Try.prog 49 #[.pointer (some ⟨p, 0, none⟩), .agg #[.int .i64 xk, .string xd, .bool xb, .int .i64 (xp : Int)]] w _
  have HNW := Lib.hid hnews
  clear hnews
  generalize hL' : (⟨xk, xd, xb, xp⟩ :: L : List Kp) = L' at *
  clear hL'
  obtain ⟨X, hX⟩ : ∃ X, w.alloc (.cells #[.int .i64 xk, .string xd, .bool xb, .int .i64 (xp : Int)] 48) = X := ⟨_, rfl⟩
  have hbX : Below w.heap.size w X := by rw [← hX]; exact (Below.refl _ _).alloc (Nat.le_refl _) _
  have hXh : X.heap[w.heap.size]? = some (.cells #[.int .i64 xk, .string xd, .bool xb, .int .i64 (xp : Int)] 48 (0, 0)) := by rw [← hX]; exact heap_alloc_new ..
  have e0 : X.cell? ⟨w.heap.size, 0, none⟩ = some (.int .i64 xk) := by rw [cell_at hXh]; rfl
  have e1 : X.cell? ⟨w.heap.size, 1, none⟩ = some (.string xd) := by rw [cell_at hXh]; rfl
  have e2 : X.cell? ⟨w.heap.size, 2, none⟩ = some (.bool xb) := by rw [cell_at hXh]; rfl
  have e3 : X.cell? ⟨w.heap.size, 3, none⟩ = some (.int .i64 (xp : Int)) := by rw [cell_at hXh]; rfl
  have HRX := Lib.hid (H.out.below hbX)
  have HBX := Lib.hid hbX; have HX := Lib.hid hX
  have hltX := hbX.size
  have hXl : w.heap.size < X.heap.size := (Array.getElem?_eq_some_iff.1 hXh).1
  have HE : Hid (∀ W, Below X.heap.size X W → W.cell? ⟨w.heap.size, 0, none⟩ = some (.int .i64 xk) ∧ W.cell? ⟨w.heap.size, 1, none⟩ = some (.string xd) ∧ W.cell? ⟨w.heap.size, 2, none⟩ = some (.bool xb) ∧ W.cell? ⟨w.heap.size, 3, none⟩ = some (.int .i64 (xp : Int)) ∧ W.cell? ⟨p, 0, none⟩ = some v ∧ W.frozen? ⟨p, 0, none⟩ = false) := fun W hW =>
    ⟨(hW.cell (p := ⟨w.heap.size, 0, none⟩) hXl).trans e0, (hW.cell (p := ⟨w.heap.size, 1, none⟩) hXl).trans e1, (hW.cell (p := ⟨w.heap.size, 2, none⟩) hXl).trans e2, (hW.cell (p := ⟨w.heap.size, 3, none⟩) hXl).trans e3, (HRX.out.below hW).c0, (HRX.out.below hW).f 0⟩
  have hpX : p < X.heap.size := by omega
  have hNW : Hid (∀ W, Below X.heap.size X W → ∀ j u, (flatQ L)[j]? = some u → W.cell? (ad.add j) = some u) := by
    have h1 := HRX.out
    obtain ⟨ad', c', hv', hn'⟩ := h1.news
    intro W hW
    obtain ⟨ad2, c2, hv2, hn2⟩ := (h1.below hW).news
    intro j u hu
    have hne : L ≠ [] := fun e => by rw [e] at hu; simp [flatQ] at hu
    have e1 : v = .slice (some ad) L.length c := by rcases hv with h | ⟨_, h⟩; exact h; exact absurd h hne
    have e2 : v = .slice (some ad2) L.length c2 := by rcases hv2 with h | ⟨_, h⟩; exact h; exact absurd h hne
    rw [e1] at e2
    obtain ⟨rfl, _⟩ : ad = ad2 ∧ c = c2 := by simpa using e2
    exact hn2 j u hu
  clear hX hbX hXh HNW
  have c0 := (HE.out X (Below.refl _ _)).2.2.2.2.1
  have f0 := (HE.out X (Below.refl _ _)).2.2.2.2.2
  obtain ⟨n, hn⟩ : ∃ n, L.length = n := ⟨_, rfl⟩
  rw [hn] at hv hl HLN HEL
  rcases hv with hv | ⟨hv, hL⟩
  · subst hv
    go_enter Try.func49, Try.ntmps49
    go_wp2_with fail
    rw [HX.out]
    go_region_law (first
      | (refine step_append_where rfl (.tmp 6) (.tmp 10) 40 rfl 0 48 i0 (.agg #[.int .i64 0, .string ⟨#[]⟩, .bool false, .int .i64 0]) 4 40 Try.underlying40 hi hz0 hz1 HZ2.out rfl (by omega) (.slice (some ⟨X.heap.size, 0, none⟩) 1 1) 1 [.int .i64 xk, .string xd, .bool xb, .int .i64 (xp : Int)] (by kernel_rfl) ?own ad n c (flatQ L) (by kernel_rfl) HLN.out ?news HON.out (by unfold maxLen; omega) (by omega) (Nat.zero_le _) ?_
         case own => exact World.ownsRow_lit X #[.int .i64 xk, .string xd, .bool xb, .int .i64 (xp : Int)] 1 (Nat.zero_le _) (by unfold maxLen; omega) rfl
         case news => exact hNW.out _ (((Below.refl _ _).alloc (Nat.le_refl _) _).drew)
         intro v2 w11 hown2 hgrow2 hwh2
         have B11 : Hid (Below X.heap.size X w11) := (((Below.refl _ _).alloc (Nat.le_refl _) _).drew).grown hgrow2 (by simp) (fun q hq => by cases hq; exact Nat.le_refl _)
         have HG2 : Hid (∀ q, v2.ownBlock = some q → X.heap.size ≤ q) := fun q hq => by
           rcases hwh2 q hq with h | h
           · cases h; exact Nat.le_refl _
           · simp at h; omega
         obtain ⟨k0, k1, k2, k3, k4, k5⟩ := HE.out _ B11.out
         obtain ⟨ao2, c2, hv2⟩ := own_shape hown2
         subst hv2
         have HW2 := Lib.hid hown2
         clear hgrow2 hwh2 hown2))
    all_goals
      have HFin : Hid (QL w (w11.setCell ⟨p, 0, none⟩ (.slice ao2 (1 + n) c2)) p (.slice (some ad) n c) L' m mi) :=
        ⟨_, r_end HRX.out B11.out HW2.out HEL.out HEX.out HG2.out, fun q hq => .inr (by have := HG2.out q hq; omega), ((Only.of_below (fun b => b = p) (HBX.out.trans (B11.out.mono HBX.out.size)) (Nat.le_refl _)).setCell (p := ⟨p, 0, none⟩) (fun _ => rfl) _).mono (fun _ _ h => .inl h)⟩
      go_end0
      exact ⟨rfl, HFin.out⟩
  · subst hv
    have hn0 : n = 0 := by rw [← hn, hL]; rfl
    subst hn0
    have HW2 : Hid (((X.alloc (.cells #[.int .i64 xk, .string xd, .bool xb, .int .i64 (xp : Int)] 48)).drew).ownsRow 0 48 4 (.slice (some ⟨X.heap.size, 0, none⟩) 1 1) 1 [.int .i64 xk, .string xd, .bool xb, .int .i64 (xp : Int)]) := World.ownsRow_lit X #[.int .i64 xk, .string xd, .bool xb, .int .i64 (xp : Int)] 1 (Nat.zero_le _) (by unfold maxLen; omega) rfl
    have B11 : Hid (Below X.heap.size X (X.alloc (.cells #[.int .i64 xk, .string xd, .bool xb, .int .i64 (xp : Int)] 48)).drew) := ((Below.refl _ _).alloc (Nat.le_refl _) _).drew
    have HEX2 : Hid ([Value.int .i64 xk, .string xd, .bool xb, .int .i64 (xp : Int)] = flatQ L') := by
      have := HEX.out
      rw [hL] at this
      exact this
    obtain ⟨Y, hY⟩ : ∃ Y, (X.alloc (.cells #[.int .i64 xk, .string xd, .bool xb, .int .i64 (xp : Int)] 48)).drew = Y := ⟨_, rfl⟩
    rw [hY] at HW2 B11
    obtain ⟨k0, k1, k2, k3, k4, k5⟩ := HE.out _ B11.out
    have HFin : Hid (QL w (Y.setCell ⟨p, 0, none⟩ (.slice (some ⟨X.heap.size, 0, none⟩) 1 1)) p (.slice none 0 c) L' m mi) :=
      ⟨_, r_end HRX.out B11.out HW2.out HEL.out HEX2.out (fun q hq => by cases hq; exact Nat.le_refl _), fun q hq => .inr (by cases hq; omega), ((Only.of_below (fun b => b = p) (HBX.out.trans (B11.out.mono HBX.out.size)) (Nat.le_refl _)).setCell (p := ⟨p, 0, none⟩) (fun _ => rfl) _).mono (fun _ _ h => .inl h)⟩
    have HY := Lib.hid hY
    rw [← hY] at k0 k1 k2 k3 k4 k5
    clear hY
    go_enter Try.func49, Try.ntmps49
    go_wp2_with fail
    rw [HX.out]
    go_region_law (fail)
    all_goals
      go_end0
      refine ⟨rfl, ?_⟩
      have h := HFin.out
      rw [← HY.out] at h
      first | exact h | (rw [World.setCell_drew, World.setCell_alloc_past _ _ _ _ hpX] at h; exact h)
end
end Go.Proofs.Yteeoglfgilabaaa
/- The document's cache: what Get answers and leaves behind: the same as in plain lists. -/
namespace Go.Proofs.Yteeoglfgilabaaa
open Go.RowKit

section
variable {w w1 : World} {p : Nat} {v : Value} {C : CS} {L : List Kp} {m mi : Int}
theorem R3.miss (h : R3 w p v L m mi) (mi' : Int) : R3 (w.setCell ⟨p, 2, none⟩ (.int .i64 mi')) p v L m mi' :=
  ⟨by rw [heap_setCell_at h.hp]; rfl, ownsRow_setCell_other h.hr (by simpa using h.rp) _, h.rp⟩
theorem QL.set {mi' : Int} (h : R3 w p v L m mi) : QL w (w.setCell ⟨p, 2, none⟩ (.int .i64 mi')) p v L m mi' :=
  ⟨v, h.miss mi', fun _ => .inl, (Only.refl _ w).setCell (p := ⟨p, 2, none⟩) (fun _ => .inl rfl) _⟩
/-- A new block's cells, and what stands when one is put first. -/
theorem first_box {w3 : World} {x : Kp} {M : List Kp} (h : R3 w p v L m mi) (hX : w.heap.size < w1.heap.size) (hb : Below w.heap.size w w1) (hq : QL w1 w3 p v M m mi) : w3.heap[w.heap.size]? = w1.heap[w.heap.size]? := by
  obtain ⟨_, _, _, ho⟩ := hq
  refine ho.block _ hX (fun hk => ?_)
  rcases hk with hk | hk
  · have := h.lt; omega
  · have := h.own_lt _ hk; omega

set_option maxRecDepth 100000 in
set_option maxHeartbeats 2000000 in
theorem qget_any (i : Int) (t : ByteArray) (er : Int) (h : RQ w p v C) (ok : C.Ok) : Calls Try.prog 35 #[.pointer (some ⟨p, 0, none⟩), .int .i64 i, .string t, .int .i64 er] w fun e w' => e = .returned (.tuple #[.string (C.get i t er).1.1, .int .i64 (C.get i t er).1.2]) ∧ QC w w' p v (C.get i t er).2 := by
  have CF := Lib.hid (qfind_any i h (ok_short ok))
  have H := Lib.hid h
  have hms := ok.ms
  unfold pos6 at CF
  cases hf : fx C.L i with
  | some ky =>
    obtain ⟨k, y⟩ := ky
    obtain ⟨hk, hy, hkey, _⟩ := fx_some hf
    have e : C.get i t er = ((y.data, 0), { C with L := y :: C.L.eraseIdx k }) := by unfold CS.get; rw [hf]
    rw [e]
    rw [hf] at CF
    simp only at CF
    have CT : Hid (Calls Try.prog 47 #[.pointer (some ⟨p, 0, none⟩), .int .i64 (k : Int)] w fun e w' => e = .returned (.agg #[.int .i64 y.key, .string y.data, .bool y.dirty, .int .i64 (y.pins : Int)]) ∧ QL w w' p v (C.L.eraseIdx k) (C.most : Int) (C.misses : Int)) := by
      have := qtake_any k hk h (ok_short ok)
      rw [hy] at this
      exact this
    have hkz : ¬ ((k : Int) < 0) := by omega
    have hkz2 : (0 : Int) ≤ (k : Int) := by omega
    have HLe : Hid ((C.L.eraseIdx k).length ≤ 4000) := by show _ ≤ _; rw [List.length_eraseIdx]; have := ok_short ok; split <;> omega
    rename_i hrest
    clear h hf e hrest hkey hy ok
    obtain ⟨xk, xd, xb, xp⟩ := y
    simp only at CT
    go_enter Try.func35, Try.ntmps35
    go_wp2_with fail
    refine CF.out.mono ?_
    rintro e w1 ⟨rfl, rfl⟩
    go_wp2_with fail
    refine CT.out.mono ?_
    rintro e w2 ⟨rfl, v2, h2, hown2, hon2⟩
    obtain ⟨X, hX⟩ : ∃ X, w2.alloc (.cells #[.int .i64 xk, .string xd, .bool xb, .int .i64 (xp : Int)] 48) = X := ⟨_, rfl⟩
    have hbX : Below w2.heap.size w2 X := by rw [← hX]; exact (Below.refl _ _).alloc (Nat.le_refl _) _
    have hXh : X.heap[w2.heap.size]? = some (.cells #[.int .i64 xk, .string xd, .bool xb, .int .i64 (xp : Int)] 48 (0, 0)) := by rw [← hX]; exact heap_alloc_new ..
    have e0 : X.cell? ⟨w2.heap.size, 0, none⟩ = some (.int .i64 xk) := by rw [cell_at hXh]; rfl
    have e1 : X.cell? ⟨w2.heap.size, 1, none⟩ = some (.string xd) := by rw [cell_at hXh]; rfl
    have e2 : X.cell? ⟨w2.heap.size, 2, none⟩ = some (.bool xb) := by rw [cell_at hXh]; rfl
    have e3 : X.cell? ⟨w2.heap.size, 3, none⟩ = some (.int .i64 (xp : Int)) := by rw [cell_at hXh]; rfl
    have CQ : Hid (Calls Try.prog 49 #[.pointer (some ⟨p, 0, none⟩), .agg #[.int .i64 xk, .string xd, .bool xb, .int .i64 (xp : Int)]] X fun e w' => e = .returned (.tuple #[]) ∧ Hid (QC w w' p v { C with L := ⟨xk, xd, xb, xp⟩ :: C.L.eraseIdx k }) ∧ w'.cell? ⟨w2.heap.size, 1, none⟩ = some (.string xd)) :=
      (qfirst_any ⟨xk, xd, xb, xp⟩ (h2.below hbX) HLe.out).mono fun e w' ⟨he, hq⟩ => ⟨he, QL.next hown2 hon2 (QL.next (fun _ => .inl) (Only.of_below _ hbX (Nat.le_refl _)) hq), by
        have := first_box (x := ⟨xk, xd, xb, xp⟩) h2 (Array.getElem?_eq_some_iff.1 hXh).1 hbX hq
        exact (World.cell?_of_block (w := X) (a := ⟨w2.heap.size, 1, none⟩) this).trans e1⟩
    have HX := Lib.hid hX
    clear hX hbX hXh h2 hown2 hon2 CF CT
    go_wp2_with fail
    rw [HX.out]
    refine CQ.out.mono ?_
    rintro e w3 ⟨rfl, hq3, c3⟩
    go_wp2
    go_ret2
    exact ⟨rfl, hq3.out⟩
  | none =>
    rw [hf] at CF
    simp only at CF
    by_cases her : er = 0
    · subst her
      have CR := qroom_any C.most h (ok_short ok) ok.pn
      cases hr : room C.L C.most with
      | none =>
        have e : C.get i t 0 = ((⟨#[]⟩, 14), C) := by unfold CS.get; rw [hf]; simp only; rw [if_neg (by omega), hr]
        rw [e]
        rw [hr] at CR
        have CR := Lib.hid CR
        clear h hf hr ok e
        go_enter Try.func35, Try.ntmps35
        go_wp2_with fail
        refine CF.out.mono ?_
        rintro e w1 ⟨rfl, rfl⟩
        go_wp2_with fail
        refine CR.out.mono ?_
        rintro e w2 ⟨rfl, hq2⟩
        have HQ := Lib.hid hq2
        clear hq2 CR CF
        go_wp2
        go_ret2
        exact ⟨rfl, HQ.out⟩
      | some M =>
        have e : C.get i t 0 = ((t, 0), { C with L := ⟨i, t, false, 0⟩ :: M, misses := C.misses + 1 }) := by unfold CS.get; rw [hf]; simp only; rw [if_neg (by omega), hr]
        rw [e]
        rw [hr] at CR
        have CR := Lib.hid CR
        have HLM : Hid (M.length ≤ 4000) := by
          show _ ≤ _
          have h1 := ok_short ok
          unfold room at hr
          split at hr
          · cases hr; exact h1
          · obtain ⟨k, _, rfl⟩ := Option.map_eq_some_iff.1 hr
            rw [List.length_eraseIdx]; split <;> omega
        clear h hf hr ok e
        go_enter Try.func35, Try.ntmps35
        go_wp2_with fail
        refine CF.out.mono ?_
        rintro e w1 ⟨rfl, rfl⟩
        go_wp2_with fail
        refine CR.out.mono ?_
        rintro e w2 ⟨rfl, v2, h2, hown2, hon2⟩
        have c2 := h2.c2
        have f2 := h2.f 2
        have CQ : Hid (Calls Try.prog 49 #[.pointer (some ⟨p, 0, none⟩), .agg #[.int .i64 i, .string t, .bool false, .int .i64 0]] (w2.setCell ⟨p, 2, none⟩ (.int .i64 ((C.misses : Int) + 1))) fun e w' => e = .returned (.tuple #[]) ∧ Hid (QC w w' p v { C with L := ⟨i, t, false, 0⟩ :: M, misses := C.misses + 1 })) :=
          (qfirst_any ⟨i, t, false, 0⟩ (h2.miss ((C.misses : Int) + 1)) HLM.out).mono fun e w' ⟨he, hq⟩ => ⟨he, by
            have h3 : QL w w' p v (⟨i, t, false, 0⟩ :: M) (C.most : Int) ((C.misses : Int) + 1) := QL.next hown2 hon2 (QL.next (fun _ => .inl) ((Only.refl _ w2).setCell (p := ⟨p, 2, none⟩) (fun _ => .inl rfl) _) hq)
            exact h3⟩
        clear h2 hown2 hon2 CF CR
        go_wp2_with fail
        refine CQ.out.mono ?_
        rintro e w3 ⟨rfl, hq3⟩
        go_wp2
        go_ret2
        exact ⟨rfl, hq3.out⟩
    · have e : C.get i t er = ((⟨#[]⟩, er), C) := by unfold CS.get; rw [hf]; simp only; rw [if_pos her]
      have hne : (er != 0) = true := by simp [her]
      rw [e]
      have HQ : Hid (QC w w p v C) := QL.refl H.out
      clear h hf ok e her
      go_enter Try.func35, Try.ntmps35
      go_wp2_with fail
      refine CF.out.mono ?_
      rintro e w1 ⟨rfl, rfl⟩
      go_wp2
      go_ret2
      exact ⟨rfl, HQ.out⟩
end
end Go.Proofs.Yteeoglfgilabaaa

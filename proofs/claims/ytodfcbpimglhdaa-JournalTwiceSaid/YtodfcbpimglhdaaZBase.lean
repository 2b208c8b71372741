/- What a device of blocks is, in plain lists and in memory, and what a call leaves alone: definitions and small facts that the proofs of layer 1 share; nothing of the program is walked here. -/
import Derived.Test.YtodfcbpimglhdaaRows
import Derived.WalkKit
import Derived.WalkSpells
import Derived.WalkLawsBesides

namespace Go.Proofs.Ytodfcbpimglhdaa
open Go.RowKit

/-- Outside of the blocks of S the world w' is as w was. -/
structure Only (S : Nat → Prop) (w w' : World) : Prop where
  os : w'.os = w.os
  tape : w'.tape = w.tape
  output : w'.output = w.output
  size : w.heap.size ≤ w'.heap.size
  block : ∀ k, k < w.heap.size → ¬ S k → w'.heap[k]? = w.heap[k]?

theorem Only.refl (S : Nat → Prop) (w : World) : Only S w w := ⟨rfl, rfl, rfl, Nat.le_refl _, fun _ _ _ => rfl⟩
theorem Only.of_below {B : Nat} {w w' : World} (S : Nat → Prop) (h : Below B w w') (hB : w.heap.size ≤ B) : Only S w w' :=
  ⟨h.os, h.tape, h.output, h.size, fun k hk _ => h.block k (by omega)⟩
theorem Only.below {S : Nat → Prop} {w w' : World} {B : Nat} (h : Only S w w') (hB : B ≤ w.heap.size) (hS : ∀ k, k < w.heap.size → S k → B ≤ k) : Below B w w' :=
  ⟨h.os, h.tape, h.output, h.size, fun k hk => h.block k (by omega) (fun hs => by have := hS k (by omega) hs; omega)⟩
theorem Only.trans {S T : Nat → Prop} {a b c : World} (h : Only S a b) (k : Only T b c) (hT : ∀ i, i < a.heap.size → T i → S i) : Only S a c :=
  ⟨k.os.trans h.os, k.tape.trans h.tape, k.output.trans h.output, Nat.le_trans h.size k.size,
    fun i hi hS => (k.block i (Nat.lt_of_lt_of_le hi h.size) (fun t => hS (hT i hi t))).trans (h.block i hi hS)⟩
theorem Only.mono {S T : Nat → Prop} {a b : World} (h : Only S a b) (hT : ∀ i, i < a.heap.size → S i → T i) : Only T a b :=
  ⟨h.os, h.tape, h.output, h.size, fun i hi hS => h.block i hi (fun s => hS (hT i hi s))⟩
theorem Only.drew {S : Nat → Prop} {a w : World} (h : Only S a w) : Only S a w.drew := ⟨h.os, h.tape, h.output, h.size, h.block⟩
theorem Only.alloc {S : Nat → Prop} {a w : World} (h : Only S a w) (o : Obj) : Only S a (w.alloc o) :=
  h.trans (T := fun _ => False) ⟨rfl, rfl, rfl, by simp, fun k hk _ => Below.heap_alloc _ _ _ hk⟩ (fun _ _ f => f.elim)
theorem Only.setCell {S : Nat → Prop} {a w : World} (h : Only S a w) {p : Addr} (hp : p.block < a.heap.size → S p.block) (u : Value) : Only S a (w.setCell p u) :=
  h.trans (T := fun k => k = p.block) ⟨rfl, rfl, rfl, by simp [World.setCell], fun k _ hk => Below.heap_setCell _ _ _ _ hk⟩ (fun i hi e => by subst e; exact hp hi)
theorem Only.cell {S : Nat → Prop} {w w' : World} (h : Only S w w') {p : Addr} (hp : p.block < w.heap.size) (hs : ¬ S p.block) : w'.cell? p = w.cell? p := World.cell?_of_block (h.block _ hp hs)

/-- A device, in plain lists. -/
structure DevS where
  disk : List ByteArray
  pend : List (Nat × ByteArray)
  fused : Bool
  fuse : Int
  dead : Bool

/-- The cells of a row of writes. -/
def flatW : List (Nat × ByteArray) → List Value
  | [] => []
  | x :: r => .int .i64 x.1 :: .string x.2 :: flatW r
theorem flatW_length (l : List (Nat × ByteArray)) : (flatW l).length = l.length * 2 := by
  induction l with
  | nil => rfl
  | cons x r ih => simp [flatW, ih]; omega
theorem flatW_append (l m : List (Nat × ByteArray)) : flatW (l ++ m) = flatW l ++ flatW m := by
  induction l with
  | nil => rfl
  | cons x r ih => simp [flatW, ih]
theorem flatW_fst (l : List (Nat × ByteArray)) (i : Nat) (h : i < l.length) : (flatW l)[i * 2]? = some (.int .i64 (l[i]).1) := by
  induction l generalizing i with
  | nil => cases h
  | cons x r ih =>
    cases i with
    | zero => rfl
    | succ j =>
      have e : (j + 1) * 2 = j * 2 + 1 + 1 := by omega
      rw [e]; simpa [flatW] using ih j (by simpa using h)
theorem flatW_snd (l : List (Nat × ByteArray)) (i : Nat) (h : i < l.length) : (flatW l)[i * 2 + 1]? = some (.string (l[i]).2) := by
  induction l generalizing i with
  | nil => cases h
  | cons x r ih =>
    cases i with
    | zero => rfl
    | succ j =>
      have e : (j + 1) * 2 + 1 = j * 2 + 1 + 1 + 1 := by omega
      rw [e]; simpa [flatW] using ih j (by simpa using h)
theorem flatW_one (l : List (Nat × ByteArray)) : ∀ u ∈ flatW l, u.oneCell' = true := by
  induction l with
  | nil => intro u h; cases h
  | cons x r ih =>
    intro u h
    simp only [flatW, List.mem_cons] at h
    rcases h with rfl | rfl | h
    · rfl
    · rfl
    · exact ih u h

/-- What is always so of a device. -/
structure DevS.Ok (D : DevS) : Prop where
  some : 1 ≤ D.disk.length
  few : D.disk.length ≤ 4096
  whole : ∀ s ∈ D.disk, s.size = 256
  pends : ∀ x ∈ D.pend, x.1 < D.disk.length ∧ x.2.size = 256
  fuse0 : 0 ≤ D.fuse
  fuse1 : D.fuse ≤ 9223372036854775807

/-- Block p is a device that says D; S: the blocks that are its own. -/
structure Dev (S : Nat → Prop) (w : World) (p q : Nat) (pv : Value) (D : DevS) : Prop where
  ok : D.Ok
  hp : w.heap[p]? = some (.cells #[.slice (some ⟨q, 0, none⟩) D.disk.length D.disk.length, pv, .bool D.fused, .int .i64 D.fuse, .bool D.dead] 90 (0, 0))
  hq : w.heap[q]? = some (.cells (D.disk.map Value.string).toArray 9 (0, 0))
  hr : w.ownsRow 0 71 2 pv D.pend.length (flatW D.pend)
  pq : p ≠ q
  rp : pv.ownBlock ≠ some p
  rq : pv.ownBlock ≠ some q
  sp : S p
  sq : S q
  sr : ∀ k, pv.ownBlock = some k → S k
  lt : ∀ k, S k → k < w.heap.size

theorem Dev.kept {S : Nat → Prop} {w w' : World} {p q : Nat} {pv : Value} {D : DevS} {T : Nat → Prop} (d : Dev S w p q pv D) (h : Only T w w') (hT : ∀ k, S k → ¬ T k) : Dev S w' p q pv D := by
  have hrow : w'.ownsRow 0 71 2 pv D.pend.length (flatW D.pend) := by
    refine ⟨d.hr.1, ?_⟩
    rcases d.hr.2 with hn | ⟨g, cap, cur, rfl, hb, hg, rest⟩
    · exact .inl hn
    · exact .inr ⟨g, cap, cur, rfl, hb, by rw [h.block g (d.lt g (d.sr g rfl)) (hT g (d.sr g rfl))]; exact hg, rest⟩
  exact ⟨d.ok, by rw [h.block p (d.lt p d.sp) (hT p d.sp)]; exact d.hp, by rw [h.block q (d.lt q d.sq) (hT q d.sq)]; exact d.hq, hrow, d.pq, d.rp, d.rq, d.sp, d.sq, d.sr, fun k hk => Nat.lt_of_lt_of_le (d.lt k hk) h.size⟩

theorem heap_setCell_at {w : World} {p i : Nat} {cs : Array Value} {e : TypeId} {fz : Nat × Nat} (h : w.heap[p]? = some (.cells cs e fz)) (v : Value) :
    (w.setCell ⟨p, i, none⟩ v).heap[p]? = some (.cells (cs.setIfInBounds i v) e fz) := by
  simp [World.setCell, Array.getElem?_modify, h]

theorem cell_at {w : World} {p : Nat} {cs : Array Value} {e : TypeId} {fz : Nat × Nat} (h : w.heap[p]? = some (.cells cs e fz)) (i : Nat) : w.cell? ⟨p, i, none⟩ = cs[i]? := by
  simp [World.cell?, h]
theorem free_at {w : World} {p : Nat} {cs : Array Value} {e : TypeId} (h : w.heap[p]? = some (.cells cs e (0, 0))) (i : Nat) : w.frozen? ⟨p, i, none⟩ = false := by
  simp [World.frozen?, h]

section
variable {S : Nat → Prop} {w : World} {p q : Nat} {pv : Value} {D : DevS}
theorem Dev.c0 (d : Dev S w p q pv D) : w.cell? ⟨p, 0, none⟩ = some (.slice (some ⟨q, 0, none⟩) D.disk.length D.disk.length) := by rw [cell_at d.hp]; rfl
theorem Dev.c1 (d : Dev S w p q pv D) : w.cell? ⟨p, 1, none⟩ = some pv := by rw [cell_at d.hp]; rfl
theorem Dev.c2 (d : Dev S w p q pv D) : w.cell? ⟨p, 2, none⟩ = some (.bool D.fused) := by rw [cell_at d.hp]; rfl
theorem Dev.c3 (d : Dev S w p q pv D) : w.cell? ⟨p, 3, none⟩ = some (.int .i64 D.fuse) := by rw [cell_at d.hp]; rfl
theorem Dev.c4 (d : Dev S w p q pv D) : w.cell? ⟨p, 4, none⟩ = some (.bool D.dead) := by rw [cell_at d.hp]; rfl
theorem Dev.f (d : Dev S w p q pv D) (i : Nat) : w.frozen? ⟨p, i, none⟩ = false := free_at d.hp i

/-- A store into one of the device's own five cells. -/
theorem Dev.put (d : Dev S w p q pv D) (i : Nat) (v : Value) (D' : DevS) (pv' : Value) (ok : D'.Ok) (hd : D'.disk = D.disk)
    (hc : (#[.slice (some ⟨q, 0, none⟩) D.disk.length D.disk.length, pv, .bool D.fused, .int .i64 D.fuse, .bool D.dead] : Array Value).setIfInBounds i v = #[.slice (some ⟨q, 0, none⟩) D.disk.length D.disk.length, pv', .bool D'.fused, .int .i64 D'.fuse, .bool D'.dead])
    (hr : w.ownsRow 0 71 2 pv' D'.pend.length (flatW D'.pend)) (rp : pv'.ownBlock ≠ some p) (rq : pv'.ownBlock ≠ some q) (sr : ∀ k, pv'.ownBlock = some k → S k) :
    Dev S (w.setCell ⟨p, i, none⟩ v) p q pv' D' := by
  refine ⟨ok, ?_, ?_, ?_, d.pq, rp, rq, d.sp, d.sq, sr, fun k hk => by simpa [World.setCell] using d.lt k hk⟩
  · rw [heap_setCell_at d.hp, hc, hd]
  · rw [Below.heap_setCell _ _ _ _ (Ne.symm d.pq), hd]; exact d.hq
  · refine ⟨hr.1, ?_⟩
    rcases hr.2 with hn | ⟨g, cap, cur, rfl, hb, hg, rest⟩
    · exact .inl hn
    · refine .inr ⟨g, cap, cur, rfl, hb, ?_, rest⟩
      rw [Below.heap_setCell _ _ _ _ (fun e => rp (by simp [Value.ownBlock, e]))]; exact hg
end

theorem own_shape {w : World} {base : Nat} {e : TypeId} {size n : Nat} {v : Value} {xs : List Value} (h : w.ownsRow base e size v n xs) : ∃ ao cap, v = .slice ao n cap := by
  rcases h.2 with ⟨h', h0⟩ | ⟨g, cap, cur, h1, _⟩
  · exact ⟨none, 0, by rw [h', h0]⟩
  · exact ⟨_, cap, h1⟩

end Go.Proofs.Ytodfcbpimglhdaa

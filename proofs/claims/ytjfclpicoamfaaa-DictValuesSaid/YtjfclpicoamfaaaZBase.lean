/- What a device of blocks is, in plain lists and in memory, and what a call leaves alone: definitions and small facts that the proofs of layer 1 share; nothing of the program is walked here. -/
import Derived.Test.YtjfclpicoamfaaaRows
import Derived.WalkKit
import Derived.WalkSpells
import Derived.WalkLawsBesides

namespace Go.Proofs.Ytjfclpicoamfaaa
open Go.RowKit
structure Only (S : Nat -> Prop) (w w' : World) : Prop where
 os : w'.os = w.os
 tape : w'.tape = w.tape
 output : w'.output = w.output
 size : w.heap.size <= w'.heap.size
 block : ∀ k, k < w.heap.size -> ¬ S k -> w'.heap[k]? = w.heap[k]?
theorem Only.below {S : Nat -> Prop} {w w' : World} {B : Nat} (h : Only S w w') (hB : B <= w.heap.size) (hS : ∀ k, k < w.heap.size -> S k -> B <= k) : Below B w w' :=
 ⟨h.os, h.tape, h.output, h.size, fun k hk => h.block k (by omega) (fun hs => by have := hS k (by omega) hs; omega)⟩
theorem Only.trans {S T : Nat -> Prop} {a b c : World} (h : Only S a b) (k : Only T b c) (hT : ∀ i, i < a.heap.size -> T i -> S i) : Only S a c :=
 ⟨k.os.trans h.os, k.tape.trans h.tape, k.output.trans h.output, Nat.le_trans h.size k.size,
  fun i hi hS => (k.block i (Nat.lt_of_lt_of_le hi h.size) (fun t => hS (hT i hi t))).trans (h.block i hi hS)⟩
theorem Only.mono {S T : Nat -> Prop} {a b : World} (h : Only S a b) (hT : ∀ i, i < a.heap.size -> S i -> T i) : Only T a b :=
 ⟨h.os, h.tape, h.output, h.size, fun i hi hS => h.block i hi (fun s => hS (hT i hi s))⟩
theorem Only.drew {S : Nat -> Prop} {a w : World} (h : Only S a w) : Only S a w.drew := ⟨h.os, h.tape, h.output, h.size, h.block⟩
theorem Only.alloc {S : Nat -> Prop} {a w : World} (h : Only S a w) (o : Obj) : Only S a (w.alloc o) :=
 h.trans (T := fun _ => False) ⟨rfl, rfl, rfl, by simp, fun k hk _ => Below.heap_alloc _ _ _ hk⟩ (fun _ _ f => f.elim)
theorem Only.setCell {S : Nat -> Prop} {a w : World} (h : Only S a w) {p : Addr} (hp : p.block < a.heap.size -> S p.block) (u : Value) : Only S a (w.setCell p u) :=
 h.trans (T := fun k => k = p.block) ⟨rfl, rfl, rfl, by simp [World.setCell], fun k _ hk => Below.heap_setCell _ _ _ _ hk⟩ (fun i hi e => by subst e; exact hp hi)
theorem Only.cell {S : Nat -> Prop} {w w' : World} (h : Only S w w') {p : Addr} (hp : p.block < w.heap.size) (hs : ¬ S p.block) : w'.cell? p = w.cell? p := World.cell?_of_block (h.block _ hp hs)
structure DevS where
 disk : List ByteArray
 pend : List (Nat × ByteArray)
 fused : Bool
 fuse : Int
 dead : Bool
structure DevS.Ok (D : DevS) : Prop where
 some : 1 <= D.disk.length
 few : D.disk.length <= 4096
 whole : ∀ s ∈ D.disk, s.size = 256
 pends : ∀ x ∈ D.pend, x.1 < D.disk.length /\ x.2.size = 256
 fuse0 : 0 <= D.fuse
 fuse1 : D.fuse <= 9223372036854775807
theorem heap_setCell_at {w : World} {p i : Nat} {cs : Array Value} {e : TypeId} {fz : Nat × Nat} (h : w.heap[p]? = some (.cells cs e fz)) (v : Value) :
  (w.setCell ⟨p, i, none⟩ v).heap[p]? = some (.cells (cs.setIfInBounds i v) e fz) := by
 simp [World.setCell, Array.getElem?_modify, h]
theorem cell_at {w : World} {p : Nat} {cs : Array Value} {e : TypeId} {fz : Nat × Nat} (h : w.heap[p]? = some (.cells cs e fz)) (i : Nat) : w.cell? ⟨p, i, none⟩ = cs[i]? := by
 simp [World.cell?, h]
theorem free_at {w : World} {p : Nat} {cs : Array Value} {e : TypeId} (h : w.heap[p]? = some (.cells cs e (0, 0))) (i : Nat) : w.frozen? ⟨p, i, none⟩ = false := by
 simp [World.frozen?, h]
section
variable {S : Nat -> Prop} {w : World} {p q : Nat} {pv : Value} {D : DevS}
end
end Go.Proofs.Ytjfclpicoamfaaa
/- An append onto a row of one's own, and where the row lies behind it: where it lay, or in a new block. -/
namespace Go.Proofs.Ytjfclpicoamfaaa
open Go.RowKit
section
variable {P : Program} (w : World)
theorem run_append_where (base : Nat) (t ty e : TypeId) (i : TypeInfo) (z : Value) (size bytes : Nat) (ht : P.underlying t = some (.slice e)) (hi : P.info? e = some i) (hz : i.zero = some z)
  (hsize : i.size = size) (hby : i.bytes = bytes) (hzs : z.cells.size = size) (hsz : 0 < size)
  (v : Value) (n : Nat) (xs : List Value) (hown : w.ownsRow base e size v n xs)
  (a : Addr) (m c : Nat) (news : List Value) (hl : news.length = m * size) (hnews : ∀ j u, news[j]? = some u -> w.cell? (a.add j) = some u) (h1 : ∀ u ∈ news, u.oneCell' = true)
  (h63 : n + m <= maxLen) (hbytes : (n + m) * bytes <= 140737488355328) (hbase : base <= w.heap.size) :
  ∃ v' w', (Builtin.append_ #[t, t] ty #[v, .slice (some a) m c]).run P w = .ok v' w' /\ w'.ownsRow base e size v' (n + m) (xs ++ news) /\ w.grownBy w' v.ownBlock /\
   (∀ k, v'.ownBlock = some k -> v.ownBlock = some k \/ w.heap.size <= k) := by
 obtain ⟨v', w', hr, h2, h3, _⟩ := run_append_own (P := P) w base t ty e i z size bytes ht hi hz hsize hby hzs hsz v n xs hown a m c news hl hnews h1 h63 hbytes hbase
 refine ⟨v', w', hr, h2, h3, ?_⟩
 rcases hown.2 with ⟨rfl, rfl⟩ | ⟨g, cap, cur, rfl, hb, hg, hnc, hcm, hcs, htk⟩
 ·have hx : xs = [] := List.eq_nil_of_length_eq_zero (by simpa using hown.1)
  subst hx
  obtain ⟨v2, w2, hr', h2', _, _⟩ := run_append_own (P := P) w w.heap.size t ty e i z size bytes ht hi hz hsize hby hzs hsz (.slice none 0 0) 0 [] (World.ownsRow_nil w _ e size) a m c news hl hnews h1 h63 hbytes (Nat.le_refl _)
  rw [hr] at hr'
  cases hr'
  intro k hk
  exact .inr (h2'.lt k hk).1
 ·subst hsize
  subst hby
  by_cases hroom : n + m <= cap
  ·have hfit : n * i.size + news.length <= cur.size := by rw [hl, hcs, <- Nat.add_mul]; exact Nat.mul_le_mul_right _ hroom
   have hr' := run_append_room (P := P) w t ty e i ht hi g n cap cur hg a m c news hl hnews h1 hroom hfit
   rw [hr] at hr'
   cases hr'
   intro k hk
   exact .inl hk
  ·have hsmall : n + m <= 9223372036854775807 := by simp only [maxLen] at h63; omega
   have hr' := run_append_grow (P := P) w t ty e i z ht hi hz ⟨g, 0, none⟩ n cap xs hown.1 (hown.cells (g := g) rfl) a m c news hl hnews (by omega) (by omega) (growslice_fits (by omega) hbytes)
   rw [hr] at hr'
   cases hr'
   intro k hk
   simp [Value.ownBlock] at hk
   exact .inr (by omega)
end
end Go.Proofs.Ytjfclpicoamfaaa

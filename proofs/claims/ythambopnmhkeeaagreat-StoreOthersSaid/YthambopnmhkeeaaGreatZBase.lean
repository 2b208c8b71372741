/- What a device of blocks is, in plain lists and in memory, and what a call leaves alone: definitions and small facts that the proofs of layer 1 share; nothing of the program is walked here. -/
import Derived.Test.YthambopnmhkeeaaGreatRows
import Derived.WalkKit
import Derived.WalkSpells
import Derived.WalkLawsBesides

namespace Go.Proofs.YthambopnmhkeeaaGreat
open Go.RowKit
structure Only (S : Nat -> Prop) (w w' : World) : Prop where
 os : w'.os = w.os
 tape : w'.tape = w.tape
 output : w'.output = w.output
 size : w.heap.size <= w'.heap.size
 block : ∀ k, k < w.heap.size -> ¬ S k -> w'.heap[k]? = w.heap[k]?
theorem Only.refl (S : Nat -> Prop) (w : World) : Only S w w := ⟨rfl, rfl, rfl, Nat.le_refl _, fun _ _ _ => rfl⟩
theorem Only.of_below {B : Nat} {w w' : World} (S : Nat -> Prop) (h : Below B w w') (hB : w.heap.size <= B) : Only S w w' :=
 ⟨h.os, h.tape, h.output, h.size, fun k hk _ => h.block k (by omega)⟩
theorem Only.below {S : Nat -> Prop} {w w' : World} {B : Nat} (h : Only S w w') (hB : B <= w.heap.size) (hS : ∀ k, k < w.heap.size -> S k -> B <= k) : Below B w w' :=
 ⟨h.os, h.tape, h.output, h.size, fun k hk => h.block k (by omega) (fun hs => by have := hS k (by omega) hs; omega)⟩
theorem Only.trans {S T : Nat -> Prop} {a b c : World} (h : Only S a b) (k : Only T b c) (hT : ∀ i, i < a.heap.size -> T i -> S i) : Only S a c :=
 ⟨k.os.trans h.os, k.tape.trans h.tape, k.output.trans h.output, Nat.le_trans h.size k.size,
  fun i hi hS => (k.block i (Nat.lt_of_lt_of_le hi h.size) (fun t => hS (hT i hi t))).trans (h.block i hi hS)⟩
theorem Only.mono {S T : Nat -> Prop} {a b : World} (h : Only S a b) (hT : ∀ i, i < a.heap.size -> S i -> T i) : Only T a b :=
 ⟨h.os, h.tape, h.output, h.size, fun i hi hS => h.block i hi (fun s => hS (hT i hi s))⟩
theorem Only.drew {S : Nat -> Prop} {a w : World} (h : Only S a w) : Only S a w.drew := ⟨h.os, h.tape, h.output, h.size, h.block⟩
theorem Only.alloc {S : Nat -> Prop} {a w : World} (h : Only S a w) (o : Obj) : Only S a (w.alloc o) :=
 h.trans (T := fun _ => False) ⟨rfl, rfl, rfl, by simp, fun k hk _ => Below.heap_alloc _ _ _ hk⟩ (fun _ _ f => f.elim)
theorem Only.setCell {S : Nat -> Prop} {a w : World} (h : Only S a w) {p : Addr} (hp : p.block < a.heap.size -> S p.block) (u : Value) : Only S a (w.setCell p u) :=
 h.trans (T := fun k => k = p.block) ⟨rfl, rfl, rfl, by simp [World.setCell], fun k _ hk => Below.heap_setCell _ _ _ _ hk⟩ (fun i hi e => by subst e; exact hp hi)
theorem Only.cell {S : Nat -> Prop} {w w' : World} (h : Only S w w') {p : Addr} (hp : p.block < w.heap.size) (hs : ¬ S p.block) : w'.cell? p = w.cell? p := World.cell?_of_block (h.block _ hp hs)
structure DevS where
 disk : List ByteArray
 pend : List (Nat × ByteArray)
 fused : Bool
 fuse : Int
 dead : Bool
def flatW : List (Nat × ByteArray) -> List Value
 | [] => []
 | x :: r => .int .i64 x.1 :: .string x.2 :: flatW r
theorem flatW_length (l : List (Nat × ByteArray)) : (flatW l).length = l.length * 2 := by
 induction l with
 | nil => rfl
 | cons x r ih => simp [flatW, ih]; omega
theorem flatW_append (l m : List (Nat × ByteArray)) : flatW (l ++ m) = flatW l ++ flatW m := by
 induction l with
 | nil => rfl
 | cons x r ih => simp [flatW, ih]
theorem flatW_fst (l : List (Nat × ByteArray)) (i : Nat) (h : i < l.length) : (flatW l)[i * 2]? = some (.int .i64 (l[i]).1) := by
 induction l generalizing i with
 | nil => cases h
 | cons x r ih =>
  cases i with
  | zero => rfl
  | succ j =>
   have e : (j + 1) * 2 = j * 2 + 1 + 1 := by omega
   rw [e]; simpa [flatW] using ih j (by simpa using h)
theorem flatW_snd (l : List (Nat × ByteArray)) (i : Nat) (h : i < l.length) : (flatW l)[i * 2 + 1]? = some (.string (l[i]).2) := by
 induction l generalizing i with
 | nil => cases h
 | cons x r ih =>
  cases i with
  | zero => rfl
  | succ j =>
   have e : (j + 1) * 2 + 1 = j * 2 + 1 + 1 + 1 := by omega
   rw [e]; simpa [flatW] using ih j (by simpa using h)
theorem flatW_one (l : List (Nat × ByteArray)) : ∀ u ∈ flatW l, u.oneCell' = true := by
 induction l with
 | nil => intro u h; cases h
 | cons x r ih =>
  intro u h
  simp only [flatW, List.mem_cons] at h
  rcases h with rfl | rfl | h
  ·rfl
  ·rfl
  ·exact ih u h
structure DevS.Ok (D : DevS) : Prop where
 some : 1 <= D.disk.length
 few : D.disk.length <= 4096
 whole : ∀ s ∈ D.disk, s.size = 256
 pends : ∀ x ∈ D.pend, x.1 < D.disk.length /\ x.2.size = 256
 fuse0 : 0 <= D.fuse
 fuse1 : D.fuse <= 9223372036854775807
structure Dev (S : Nat -> Prop) (w : World) (p q : Nat) (pv : Value) (D : DevS) : Prop where
 ok : D.Ok
 hp : w.heap[p]? = some (.cells #[.slice (some ⟨q, 0, none⟩) D.disk.length D.disk.length, pv, .bool D.fused, .int .i64 D.fuse, .bool D.dead] 91 (0, 0))
 hq : w.heap[q]? = some (.cells (D.disk.map Value.string).toArray 9 (0, 0))
 hr : w.ownsRow 0 63 2 pv D.pend.length (flatW D.pend)
 pq : p ≠ q
 rp : pv.ownBlock ≠ some p
 rq : pv.ownBlock ≠ some q
 sp : S p
 sq : S q
 sr : ∀ k, pv.ownBlock = some k -> S k
 lt : ∀ k, S k -> k < w.heap.size
theorem Dev.kept {S : Nat -> Prop} {w w' : World} {p q : Nat} {pv : Value} {D : DevS} {T : Nat -> Prop} (d : Dev S w p q pv D) (h : Only T w w') (hT : ∀ k, S k -> ¬ T k) : Dev S w' p q pv D := by
 have hrow : w'.ownsRow 0 63 2 pv D.pend.length (flatW D.pend) := by
  refine ⟨d.hr.1, ?_⟩
  rcases d.hr.2 with hn | ⟨g, cap, cur, rfl, hb, hg, rest⟩
  ·exact .inl hn
  ·exact .inr ⟨g, cap, cur, rfl, hb, by rw [h.block g (d.lt g (d.sr g rfl)) (hT g (d.sr g rfl))]; exact hg, rest⟩
 exact ⟨d.ok, by rw [h.block p (d.lt p d.sp) (hT p d.sp)]; exact d.hp, by rw [h.block q (d.lt q d.sq) (hT q d.sq)]; exact d.hq, hrow, d.pq, d.rp, d.rq, d.sp, d.sq, d.sr, fun k hk => Nat.lt_of_lt_of_le (d.lt k hk) h.size⟩
theorem heap_setCell_at {w : World} {p i : Nat} {cs : Array Value} {e : TypeId} {fz : Nat × Nat} (h : w.heap[p]? = some (.cells cs e fz)) (v : Value) :
  (w.setCell ⟨p, i, none⟩ v).heap[p]? = some (.cells (cs.setIfInBounds i v) e fz) := by
 simp [World.setCell, Array.getElem?_modify, h]
theorem cell_at {w : World} {p : Nat} {cs : Array Value} {e : TypeId} {fz : Nat × Nat} (h : w.heap[p]? = some (.cells cs e fz)) (i : Nat) : w.cell? ⟨p, i, none⟩ = cs[i]? := by
 simp [World.cell?, h]
theorem free_at {w : World} {p : Nat} {cs : Array Value} {e : TypeId} (h : w.heap[p]? = some (.cells cs e (0, 0))) (i : Nat) : w.frozen? ⟨p, i, none⟩ = false := by
 simp [World.frozen?, h]
section
variable {S : Nat -> Prop} {w : World} {p q : Nat} {pv : Value} {D : DevS}
theorem Dev.c0 (d : Dev S w p q pv D) : w.cell? ⟨p, 0, none⟩ = some (.slice (some ⟨q, 0, none⟩) D.disk.length D.disk.length) := by rw [cell_at d.hp]; rfl
theorem Dev.c1 (d : Dev S w p q pv D) : w.cell? ⟨p, 1, none⟩ = some pv := by rw [cell_at d.hp]; rfl
theorem Dev.c2 (d : Dev S w p q pv D) : w.cell? ⟨p, 2, none⟩ = some (.bool D.fused) := by rw [cell_at d.hp]; rfl
theorem Dev.c3 (d : Dev S w p q pv D) : w.cell? ⟨p, 3, none⟩ = some (.int .i64 D.fuse) := by rw [cell_at d.hp]; rfl
theorem Dev.c4 (d : Dev S w p q pv D) : w.cell? ⟨p, 4, none⟩ = some (.bool D.dead) := by rw [cell_at d.hp]; rfl
theorem Dev.f (d : Dev S w p q pv D) (i : Nat) : w.frozen? ⟨p, i, none⟩ = false := free_at d.hp i
theorem Dev.put (d : Dev S w p q pv D) (i : Nat) (v : Value) (D' : DevS) (pv' : Value) (ok : D'.Ok) (hd : D'.disk = D.disk)
  (hc : (#[.slice (some ⟨q, 0, none⟩) D.disk.length D.disk.length, pv, .bool D.fused, .int .i64 D.fuse, .bool D.dead] : Array Value).setIfInBounds i v = #[.slice (some ⟨q, 0, none⟩) D.disk.length D.disk.length, pv', .bool D'.fused, .int .i64 D'.fuse, .bool D'.dead])
  (hr : w.ownsRow 0 63 2 pv' D'.pend.length (flatW D'.pend)) (rp : pv'.ownBlock ≠ some p) (rq : pv'.ownBlock ≠ some q) (sr : ∀ k, pv'.ownBlock = some k -> S k) :
  Dev S (w.setCell ⟨p, i, none⟩ v) p q pv' D' := by
 refine ⟨ok, ?_, ?_, ?_, d.pq, rp, rq, d.sp, d.sq, sr, fun k hk => by simpa [World.setCell] using d.lt k hk⟩
 ·rw [heap_setCell_at d.hp, hc, hd]
 ·rw [Below.heap_setCell _ _ _ _ (Ne.symm d.pq), hd]; exact d.hq
 ·refine ⟨hr.1, ?_⟩
  rcases hr.2 with hn | ⟨g, cap, cur, rfl, hb, hg, rest⟩
  ·exact .inl hn
  ·refine .inr ⟨g, cap, cur, rfl, hb, ?_, rest⟩
   rw [Below.heap_setCell _ _ _ _ (fun e => rp (by simp [Value.ownBlock, e]))]; exact hg
end
theorem own_shape {w : World} {base : Nat} {e : TypeId} {size n : Nat} {v : Value} {xs : List Value} (h : w.ownsRow base e size v n xs) : ∃ ao cap, v = .slice ao n cap := by
 rcases h.2 with ⟨h', h0⟩ | ⟨g, cap, cur, h1, _⟩
 ·exact ⟨none, 0, by rw [h', h0]⟩
 ·exact ⟨_, cap, h1⟩
end Go.Proofs.YthambopnmhkeeaaGreat
/- What the device's small methods answer and leave behind, for every device, under the device's own invariant: turn, check, Dead, Blocks, Fuse. -/
set_option maxRecDepth 100000
namespace Go.Proofs.YthambopnmhkeeaaGreat
open Go.RowKit
def Stands (S : Nat -> Prop) (w : World) (p : Nat) (D : DevS) : Prop := ∃ q pv, Dev S w p q pv D
theorem Stands.kept {S : Nat -> Prop} {w w' : World} {p : Nat} {D : DevS} {T : Nat -> Prop} (d : Stands S w p D) (h : Only T w w') (hT : ∀ k, S k -> ¬ T k) : Stands S w' p D := by
 obtain ⟨q, pv, d⟩ := d; exact ⟨q, pv, d.kept h hT⟩
theorem Stands.below {S : Nat -> Prop} {w w' : World} {p : Nat} {D : DevS} (d : Stands S w p D) (h : Below w.heap.size w w') : Stands S w' p D :=
 d.kept (Only.of_below (fun _ => False) h (Nat.le_refl _)) (fun _ _ f => f)
theorem Stands.ok {S : Nat -> Prop} {w : World} {p : Nat} {D : DevS} (d : Stands S w p D) : D.Ok := by obtain ⟨q, pv, d⟩ := d; exact d.ok
theorem Stands.lt {S : Nat -> Prop} {w : World} {p : Nat} {D : DevS} (d : Stands S w p D) : ∀ k, S k -> k < w.heap.size := by obtain ⟨q, pv, d⟩ := d; exact d.lt
def Leaves (S : Nat -> Prop) (w w' : World) (p : Nat) (D' : DevS) : Prop :=
 ∃ S' : Nat -> Prop, (∀ k, S' k -> S k \/ w.heap.size <= k) /\ Stands S' w' p D' /\ Only S w w'
theorem Leaves.mk {S : Nat -> Prop} {w w' : World} {p : Nat} {D : DevS} (d : Stands S w' p D) (h : Only S w w') : Leaves S w w' p D := ⟨S, fun _ => .inl, d, h⟩
section
variable {S : Nat -> Prop} {w : World} {p q : Nat} {pv : Value} {D : DevS}
def DevS.tk (D : DevS) : Bool × DevS := if D.fused = false then (true, D) else if D.fuse = 0 then (false, { D with dead := true }) else (true, { D with fuse := D.fuse - 1 })
def DevS.ck (D : DevS) (i : Int) : Int := if D.dead then 4 else if i < 0 \/ (D.disk.length : Int) <= i then 2 else 0
def DevS.setFuse (D : DevS) (n : Int) : DevS := { D with fused := decide (0 <= n), fuse := max n 0 }
theorem DevS.Ok.tk (ok : D.Ok) : D.tk.2.Ok := by
 unfold DevS.tk; split
 ·exact ok
 ·split
  ·exact ⟨ok.some, ok.few, ok.whole, ok.pends, ok.fuse0, ok.fuse1⟩
  ·exact ⟨ok.some, ok.few, ok.whole, ok.pends, by have := ok.fuse0; simp; omega, by have := ok.fuse1; simp; omega⟩
set_option maxHeartbeats 400000 in
theorem turn_free (p : Nat) (w : World) (h2 : w.cell? ⟨p, 2, none⟩ = some (.bool false)) :
  Calls Tryz.prog 84 #[.pointer (some ⟨p, 0, none⟩)] w fun e w' => e = .returned (.bool true) /\ w = w' := by
 go_enter Tryz.func84, Tryz.ntmps84
 go_wp2
 go_ret
 exact ⟨rfl, rfl⟩
set_option maxHeartbeats 400000 in
theorem turn_dies (p : Nat) (w : World) (h2 : w.cell? ⟨p, 2, none⟩ = some (.bool true)) (h3 : w.cell? ⟨p, 3, none⟩ = some (.int .i64 0)) (de : Bool) (h4 : w.cell? ⟨p, 4, none⟩ = some (.bool de)) (hf : w.frozen? ⟨p, 4, none⟩ = false) :
  Calls Tryz.prog 84 #[.pointer (some ⟨p, 0, none⟩)] w fun e w' => e = .returned (.bool false) /\ w' = w.setCell ⟨p, 4, none⟩ (.bool true) := by
 go_enter Tryz.func84, Tryz.ntmps84
 go_wp2
 go_ret
 exact ⟨rfl, rfl⟩
set_option maxHeartbeats 400000 in
theorem turn_goes (p : Nat) (w : World) (n : Int) (hn : 1 <= n) (hm : n <= 9223372036854775807) (h2 : w.cell? ⟨p, 2, none⟩ = some (.bool true)) (h3 : w.cell? ⟨p, 3, none⟩ = some (.int .i64 n)) (hf : w.frozen? ⟨p, 3, none⟩ = false) :
  Calls Tryz.prog 84 #[.pointer (some ⟨p, 0, none⟩)] w fun e w' => e = .returned (.bool true) /\ w' = w.setCell ⟨p, 3, none⟩ (.int .i64 (n - 1)) := by
 have h0 : (n == 0) = false := by simp; omega
 go_enter Tryz.func84, Tryz.ntmps84
 go_wp2
 go_ret
 exact ⟨rfl, rfl⟩
theorem turn_any (d : Dev S w p q pv D) :
  Calls Tryz.prog 84 #[.pointer (some ⟨p, 0, none⟩)] w fun e w' => e = .returned (.bool D.tk.1) /\ Dev S w' p q pv D.tk.2 /\ Only S w w' /\ w'.heap.size = w.heap.size := by
 have c2 := d.c2; have c3 := d.c3; have f3 := d.f 3; have f4 := d.f 4; have c4 := d.c4
 by_cases hf : D.fused = false
 ·rw [hf] at c2
  refine (turn_free p w c2).mono fun e w' ⟨he, hw⟩ => ?_
  subst hw
  refine ⟨?_, ?_, Only.refl _ _, rfl⟩
  ·simp [DevS.tk, hf, he]
  ·simpa [DevS.tk, hf] using d
 ·have hft : D.fused = true := by simpa using hf
  rw [hft] at c2
  by_cases h0 : D.fuse = 0
  ·rw [h0] at c3
   refine (turn_dies p w c2 c3 D.dead c4 f4).mono fun e w' ⟨he, hw⟩ => ?_
   subst hw
   have e2 : D.tk = (false, { D with dead := true }) := by simp [DevS.tk, hft, h0]
   rw [e2]
   refine ⟨he, d.put 4 _ _ pv ⟨d.ok.some, d.ok.few, d.ok.whole, d.ok.pends, d.ok.fuse0, d.ok.fuse1⟩ rfl rfl d.hr d.rp d.rq d.sr, (Only.refl _ _).setCell (fun _ => d.sp) _, by simp [World.setCell]⟩
  ·have b0 := d.ok.fuse0; have b1 := d.ok.fuse1
   refine (turn_goes p w D.fuse (by omega) b1 c2 c3 f3).mono fun e w' ⟨he, hw⟩ => ?_
   subst hw
   have e2 : D.tk = (true, { D with fuse := D.fuse - 1 }) := by simp [DevS.tk, hft, h0]
   rw [e2]
   refine ⟨he, d.put 3 _ _ pv ⟨d.ok.some, d.ok.few, d.ok.whole, d.ok.pends, by simp; omega, by simp; omega⟩ rfl rfl d.hr d.rp d.rq d.sr, (Only.refl _ _).setCell (fun _ => d.sp) _, by simp [World.setCell]⟩
set_option maxHeartbeats 400000 in
theorem check_any (i : Int) (d : Dev S w p q pv D) :
  Calls Tryz.prog 83 #[.pointer (some ⟨p, 0, none⟩), .int .i64 i] w fun e w' => e = .returned (.int .i64 (D.ck i)) /\ w = w' := by
 have c0 := d.c0; have c4 := d.c4; have hn := d.ok.few
 have HK : Hid (D.ck i = if D.dead then 4 else if i < 0 \/ (D.disk.length : Int) <= i then 2 else 0) := rfl
 generalize D.ck i = r at HK ⊢
 generalize D.dead = de at *
 generalize D.disk.length = n at *
 clear d
 cases de
 ·by_cases h1 : i < 0
  ·go_enter Tryz.func83, Tryz.ntmps83
   go_wp2
   go_ret
   exact ⟨by rw [HK.out]; simp [h1], rfl⟩
  ·by_cases h2 : (n : Int) <= i
   ·go_enter Tryz.func83, Tryz.ntmps83
    go_wp2
    go_ret
    exact ⟨by rw [HK.out]; simp [h2], rfl⟩
   ·go_enter Tryz.func83, Tryz.ntmps83
    go_wp2
    go_ret
    exact ⟨by rw [HK.out]; simp [h1, h2], rfl⟩
 ·go_enter Tryz.func83, Tryz.ntmps83
  go_wp2
  go_ret
  exact ⟨by rw [HK.out]; rfl, rfl⟩
set_option maxHeartbeats 400000 in
theorem dead_any (d : Stands S w p D) :
  Calls Tryz.prog 16 #[.pointer (some ⟨p, 0, none⟩)] w fun e w' => e = .returned (.bool D.dead) /\ w = w' := by
 obtain ⟨q, pv, d⟩ := d
 have c4 := d.c4
 clear d
 go_enter Tryz.func16, Tryz.ntmps16
 go_wp2
 go_ret
 exact ⟨rfl, rfl⟩
set_option maxHeartbeats 400000 in
theorem blocks_any (d : Stands S w p D) :
  Calls Tryz.prog 58 #[.pointer (some ⟨p, 0, none⟩)] w fun e w' => e = .returned (.int .i64 D.disk.length) /\ w = w' := by
 obtain ⟨q, pv, d⟩ := d
 have c0 := d.c0; have hn := d.ok.few
 clear d
 go_enter Tryz.func58, Tryz.ntmps58
 go_wp2
 go_ret
 exact ⟨rfl, rfl⟩
end
end Go.Proofs.YthambopnmhkeeaaGreat
/- An append onto a row of one's own, and where the row lies behind it: where it lay, or in a new block. -/
namespace Go.Proofs.YthambopnmhkeeaaGreat
open Go.RowKit
theorem own_succ {w : World} {base : Nat} {e : TypeId} {size n : Nat} {v : Value} {xs : List Value} (h : w.ownsRow base e size v (n + 1) xs) : ∃ g cap, v = .slice (some ⟨g, 0, none⟩) (n + 1) cap := by
 rcases h.2 with ⟨_, h0⟩ | ⟨g, cap, cur, hv, _⟩
 ·omega
 ·exact ⟨g, cap, hv⟩
section
variable {P : Program} (w : World)
theorem run_append_where (base : Nat) (t ty e : TypeId) (i : TypeInfo) (z : Value) (size bytes : Nat) (ht : P.underlying t = some (.slice e)) (hi : P.info? e = some i) (hz : i.zero = some z)
  (hsize : i.size = size) (hby : i.bytes = bytes) (hzs : z.cells.size = size) (hsz : 0 < size)
  (v : Value) (n : Nat) (xs : List Value) (hown : w.ownsRow base e size v n xs)
  (a : Addr) (m c : Nat) (news : List Value) (hl : news.length = m * size) (hnews : ∀ j u, news[j]? = some u -> w.cell? (a.add j) = some u) (h1 : ∀ u ∈ news, u.oneCell' = true)
  (h63 : n + m <= maxLen) (hbytes : (n + m) * bytes <= 140737488355328) (hbase : base <= w.heap.size) :
  ∃ v' w', (Builtin.append_ #[t, t] ty #[v, .slice (some a) m c]).run P w = .ok v' w' /\ w'.ownsRow base e size v' (n + m) (xs ++ news) /\ w.grownBy w' v.ownBlock /\
   (∀ k, v'.ownBlock = some k -> v.ownBlock = some k \/ w.heap.size <= k) := by
 obtain ⟨v', w', hr, h2, h3, _⟩ := run_append_own (P := P) w base t ty e i z size bytes ht hi hz hsize hby hzs hsz v n xs hown a m c news hl hnews h1 h63 hbytes hbase
 refine ⟨v', w', hr, h2, h3, ?_⟩
 rcases hown.2 with ⟨rfl, rfl⟩ | ⟨g, cap, cur, rfl, hb, hg, hnc, hcm, hcs, htk⟩
 ·have hx : xs = [] := List.eq_nil_of_length_eq_zero (by simpa using hown.1)
  subst hx
  obtain ⟨v2, w2, hr', h2', _, _⟩ := run_append_own (P := P) w w.heap.size t ty e i z size bytes ht hi hz hsize hby hzs hsz (.slice none 0 0) 0 [] (World.ownsRow_nil w _ e size) a m c news hl hnews h1 h63 hbytes (Nat.le_refl _)
  rw [hr] at hr'
  cases hr'
  intro k hk
  exact .inr (h2'.lt k hk).1
 ·subst hsize
  subst hby
  by_cases hroom : n + m <= cap
  ·have hfit : n * i.size + news.length <= cur.size := by rw [hl, hcs, <- Nat.add_mul]; exact Nat.mul_le_mul_right _ hroom
   have hr' := run_append_room (P := P) w t ty e i ht hi g n cap cur hg a m c news hl hnews h1 hroom hfit
   rw [hr] at hr'
   cases hr'
   intro k hk
   exact .inl hk
  ·have hsmall : n + m <= 9223372036854775807 := by simp only [maxLen] at h63; omega
   have hr' := run_append_grow (P := P) w t ty e i z ht hi hz ⟨g, 0, none⟩ n cap xs hown.1 (hown.cells (g := g) rfl) a m c news hl hnews (by omega) (by omega) (growslice_fits (by omega) hbytes)
   rw [hr] at hr'
   cases hr'
   intro k hk
   simp [Value.ownBlock] at hk
   exact .inr (by omega)
theorem wpList_append_where {ops : Array Oper} {rest : List Oper} {o : Oper} {a : Act} {Q : Exit -> Act -> World -> Prop} (hgd : o.guard = none) (s x : Operand) (t : TypeId)
  (ho : o.op = .call { callee := .builtin .append, args := #[s, x], argTypes := #[t, t] })
  (base : Nat) (e : TypeId) (i : TypeInfo) (z : Value) (size bytes : Nat) (ht : P.underlying t = some (.slice e)) (hi : P.info? e = some i) (hz : i.zero = some z)
  (hsize : i.size = size) (hby : i.bytes = bytes) (hzs : z.cells.size = size) (hsz : 0 < size)
  (v : Value) (n : Nat) (xs : List Value) (hs : a.eval s = v) (hown : w.ownsRow base e size v n xs)
  (ad : Addr) (m c : Nat) (news : List Value) (hx : a.eval x = .slice (some ad) m c) (hl : news.length = m * size) (hnews : ∀ j u, news[j]? = some u -> w.cell? (ad.add j) = some u) (h1 : ∀ u ∈ news, u.oneCell' = true)
  (h63 : n + m <= maxLen) (hbytes : (n + m) * bytes <= 140737488355328) (hbase : base <= w.heap.size)
  (h : ∀ v' w', w'.ownsRow base e size v' (n + m) (xs ++ news) -> w.grownBy w' v.ownBlock -> (∀ k, v'.ownBlock = some k -> v.ownBlock = some k \/ w.heap.size <= k) -> wpList P ops Q rest (a.put o.dst v') w') : wpList P ops Q (o :: rest) a w := by
 refine wpList_plain hgd fun _ hK => ?_
 obtain ⟨v', w', hr, h2, h3, h4⟩ := run_append_where (P := P) w base t o.type e i z size bytes ht hi hz hsize hby hzs hsz v n xs hown ad m c news hl hnews h1 h63 hbytes hbase
 unfold Oper.wp execOp
 simp only [ho, resolve, invoke, builtin, Sem.run_bind, Sem.run_pure, Result.andThen_ok, List.map_toArray, List.map_cons, List.map_nil, hs, hx, hr]
 exact hK _ _ (h v' w' h2 h3 h4)
end
end Go.Proofs.YthambopnmhkeeaaGreat

/- What a device of blocks is, in plain lists and in memory, and what a call leaves alone: definitions and small facts that the proofs of layer 1 share; nothing of the program is walked here. -/
import Derived.Test.YtodfcbpimglhdaaRows
import Derived.WalkKit
import Derived.WalkSpells
import Derived.WalkLawsBesides
import Derived.Lib.Hide
import Derived.Test.YtodfcbpimglhdaaZShelf
import Derived.Laws.CopyOwn
import Derived.Deep.RegionLaw

namespace Go.Proofs.Ytodfcbpimglhdaa
open Go.RowKit

/-- Outside of the blocks of S the world w' is as w was. -/
structure Only (S : Nat → Prop) (w w' : World) : Prop where
  os : w'.os = w.os
  tape : w'.tape = w.tape
  output : w'.output = w.output
  size : w.heap.size ≤ w'.heap.size
  block : ∀ k, k < w.heap.size → ¬ S k → w'.heap[k]? = w.heap[k]?

theorem Only.refl (S : Nat → Prop) (w : World) : Only S w w := ⟨rfl, rfl, rfl, Nat.le_refl _, fun _ _ _ => rfl⟩
theorem Only.of_below {B : Nat} {w w' : World} (S : Nat → Prop) (h : Below B w w') (hB : w.heap.size ≤ B) : Only S w w' :=
  ⟨h.os, h.tape, h.output, h.size, fun k hk _ => h.block k (by omega)⟩
theorem Only.below {S : Nat → Prop} {w w' : World} {B : Nat} (h : Only S w w') (hB : B ≤ w.heap.size) (hS : ∀ k, k < w.heap.size → S k → B ≤ k) : Below B w w' :=
  ⟨h.os, h.tape, h.output, h.size, fun k hk => h.block k (by omega) (fun hs => by have := hS k (by omega) hs; omega)⟩
theorem Only.trans {S T : Nat → Prop} {a b c : World} (h : Only S a b) (k : Only T b c) (hT : ∀ i, i < a.heap.size → T i → S i) : Only S a c :=
  ⟨k.os.trans h.os, k.tape.trans h.tape, k.output.trans h.output, Nat.le_trans h.size k.size,
    fun i hi hS => (k.block i (Nat.lt_of_lt_of_le hi h.size) (fun t => hS (hT i hi t))).trans (h.block i hi hS)⟩
theorem Only.mono {S T : Nat → Prop} {a b : World} (h : Only S a b) (hT : ∀ i, i < a.heap.size → S i → T i) : Only T a b :=
  ⟨h.os, h.tape, h.output, h.size, fun i hi hS => h.block i hi (fun s => hS (hT i hi s))⟩
theorem Only.drew {S : Nat → Prop} {a w : World} (h : Only S a w) : Only S a w.drew := ⟨h.os, h.tape, h.output, h.size, h.block⟩
theorem Only.alloc {S : Nat → Prop} {a w : World} (h : Only S a w) (o : Obj) : Only S a (w.alloc o) :=
  h.trans (T := fun _ => False) ⟨rfl, rfl, rfl, by simp, fun k hk _ => Below.heap_alloc _ _ _ hk⟩ (fun _ _ f => f.elim)
theorem Only.setCell {S : Nat → Prop} {a w : World} (h : Only S a w) {p : Addr} (hp : p.block < a.heap.size → S p.block) (u : Value) : Only S a (w.setCell p u) :=
  h.trans (T := fun k => k = p.block) ⟨rfl, rfl, rfl, by simp [World.setCell], fun k _ hk => Below.heap_setCell _ _ _ _ hk⟩ (fun i hi e => by subst e; exact hp hi)
theorem Only.cell {S : Nat → Prop} {w w' : World} (h : Only S w w') {p : Addr} (hp : p.block < w.heap.size) (hs : ¬ S p.block) : w'.cell? p = w.cell? p := World.cell?_of_block (h.block _ hp hs)

/-- A device, in plain lists. -/
structure DevS where
  disk : List ByteArray
  pend : List (Nat × ByteArray)
  fused : Bool
  fuse : Int
  dead : Bool

/-- The cells of a row of writes. -/
def flatW : List (Nat × ByteArray) → List Value
  | [] => []
  | x :: r => .int .i64 x.1 :: .string x.2 :: flatW r
theorem flatW_length (l : List (Nat × ByteArray)) : (flatW l).length = l.length * 2 := by
  induction l with
  | nil => rfl
  | cons x r ih => simp [flatW, ih]; omega
theorem flatW_append (l m : List (Nat × ByteArray)) : flatW (l ++ m) = flatW l ++ flatW m := by
  induction l with
  | nil => rfl
  | cons x r ih => simp [flatW, ih]
theorem flatW_fst (l : List (Nat × ByteArray)) (i : Nat) (h : i < l.length) : (flatW l)[i * 2]? = some (.int .i64 (l[i]).1) := by
  induction l generalizing i with
  | nil => cases h
  | cons x r ih =>
    cases i with
    | zero => rfl
    | succ j =>
      have e : (j + 1) * 2 = j * 2 + 1 + 1 := by omega
      rw [e]; simpa [flatW] using ih j (by simpa using h)
theorem flatW_snd (l : List (Nat × ByteArray)) (i : Nat) (h : i < l.length) : (flatW l)[i * 2 + 1]? = some (.string (l[i]).2) := by
  induction l generalizing i with
  | nil => cases h
  | cons x r ih =>
    cases i with
    | zero => rfl
    | succ j =>
      have e : (j + 1) * 2 + 1 = j * 2 + 1 + 1 + 1 := by omega
      rw [e]; simpa [flatW] using ih j (by simpa using h)
theorem flatW_one (l : List (Nat × ByteArray)) : ∀ u ∈ flatW l, u.oneCell' = true := by
  induction l with
  | nil => intro u h; cases h
  | cons x r ih =>
    intro u h
    simp only [flatW, List.mem_cons] at h
    rcases h with rfl | rfl | h
    · rfl
    · rfl
    · exact ih u h

/-- What is always so of a device. -/
structure DevS.Ok (D : DevS) : Prop where
  some : 1 ≤ D.disk.length
  few : D.disk.length ≤ 4096
  whole : ∀ s ∈ D.disk, s.size = 256
  pends : ∀ x ∈ D.pend, x.1 < D.disk.length ∧ x.2.size = 256
  fuse0 : 0 ≤ D.fuse
  fuse1 : D.fuse ≤ 9223372036854775807

/-- Block p is a device that says D; S: the blocks that are its own. -/
structure Dev (S : Nat → Prop) (w : World) (p q : Nat) (pv : Value) (D : DevS) : Prop where
  ok : D.Ok
  hp : w.heap[p]? = some (.cells #[.slice (some ⟨q, 0, none⟩) D.disk.length D.disk.length, pv, .bool D.fused, .int .i64 D.fuse, .bool D.dead] 90 (0, 0))
  hq : w.heap[q]? = some (.cells (D.disk.map Value.string).toArray 9 (0, 0))
  hr : w.ownsRow 0 71 2 pv D.pend.length (flatW D.pend)
  pq : p ≠ q
  rp : pv.ownBlock ≠ some p
  rq : pv.ownBlock ≠ some q
  sp : S p
  sq : S q
  sr : ∀ k, pv.ownBlock = some k → S k
  lt : ∀ k, S k → k < w.heap.size

theorem Dev.kept {S : Nat → Prop} {w w' : World} {p q : Nat} {pv : Value} {D : DevS} {T : Nat → Prop} (d : Dev S w p q pv D) (h : Only T w w') (hT : ∀ k, S k → ¬ T k) : Dev S w' p q pv D := by
  have hrow : w'.ownsRow 0 71 2 pv D.pend.length (flatW D.pend) := by
    refine ⟨d.hr.1, ?_⟩
    rcases d.hr.2 with hn | ⟨g, cap, cur, rfl, hb, hg, rest⟩
    · exact .inl hn
    · exact .inr ⟨g, cap, cur, rfl, hb, by rw [h.block g (d.lt g (d.sr g rfl)) (hT g (d.sr g rfl))]; exact hg, rest⟩
  exact ⟨d.ok, by rw [h.block p (d.lt p d.sp) (hT p d.sp)]; exact d.hp, by rw [h.block q (d.lt q d.sq) (hT q d.sq)]; exact d.hq, hrow, d.pq, d.rp, d.rq, d.sp, d.sq, d.sr, fun k hk => Nat.lt_of_lt_of_le (d.lt k hk) h.size⟩

theorem heap_setCell_at {w : World} {p i : Nat} {cs : Array Value} {e : TypeId} {fz : Nat × Nat} (h : w.heap[p]? = some (.cells cs e fz)) (v : Value) :
    (w.setCell ⟨p, i, none⟩ v).heap[p]? = some (.cells (cs.setIfInBounds i v) e fz) := by
  simp [World.setCell, Array.getElem?_modify, h]

theorem cell_at {w : World} {p : Nat} {cs : Array Value} {e : TypeId} {fz : Nat × Nat} (h : w.heap[p]? = some (.cells cs e fz)) (i : Nat) : w.cell? ⟨p, i, none⟩ = cs[i]? := by
  simp [World.cell?, h]
theorem free_at {w : World} {p : Nat} {cs : Array Value} {e : TypeId} (h : w.heap[p]? = some (.cells cs e (0, 0))) (i : Nat) : w.frozen? ⟨p, i, none⟩ = false := by
  simp [World.frozen?, h]

section
variable {S : Nat → Prop} {w : World} {p q : Nat} {pv : Value} {D : DevS}
theorem Dev.c0 (d : Dev S w p q pv D) : w.cell? ⟨p, 0, none⟩ = some (.slice (some ⟨q, 0, none⟩) D.disk.length D.disk.length) := by rw [cell_at d.hp]; rfl
theorem Dev.c1 (d : Dev S w p q pv D) : w.cell? ⟨p, 1, none⟩ = some pv := by rw [cell_at d.hp]; rfl
theorem Dev.c2 (d : Dev S w p q pv D) : w.cell? ⟨p, 2, none⟩ = some (.bool D.fused) := by rw [cell_at d.hp]; rfl
theorem Dev.c3 (d : Dev S w p q pv D) : w.cell? ⟨p, 3, none⟩ = some (.int .i64 D.fuse) := by rw [cell_at d.hp]; rfl
theorem Dev.c4 (d : Dev S w p q pv D) : w.cell? ⟨p, 4, none⟩ = some (.bool D.dead) := by rw [cell_at d.hp]; rfl
theorem Dev.f (d : Dev S w p q pv D) (i : Nat) : w.frozen? ⟨p, i, none⟩ = false := free_at d.hp i

/-- A store into one of the device's own five cells. -/
theorem Dev.put (d : Dev S w p q pv D) (i : Nat) (v : Value) (D' : DevS) (pv' : Value) (ok : D'.Ok) (hd : D'.disk = D.disk)
    (hc : (#[.slice (some ⟨q, 0, none⟩) D.disk.length D.disk.length, pv, .bool D.fused, .int .i64 D.fuse, .bool D.dead] : Array Value).setIfInBounds i v = #[.slice (some ⟨q, 0, none⟩) D.disk.length D.disk.length, pv', .bool D'.fused, .int .i64 D'.fuse, .bool D'.dead])
    (hr : w.ownsRow 0 71 2 pv' D'.pend.length (flatW D'.pend)) (rp : pv'.ownBlock ≠ some p) (rq : pv'.ownBlock ≠ some q) (sr : ∀ k, pv'.ownBlock = some k → S k) :
    Dev S (w.setCell ⟨p, i, none⟩ v) p q pv' D' := by
  refine ⟨ok, ?_, ?_, ?_, d.pq, rp, rq, d.sp, d.sq, sr, fun k hk => by simpa [World.setCell] using d.lt k hk⟩
  · rw [heap_setCell_at d.hp, hc, hd]
  · rw [Below.heap_setCell _ _ _ _ (Ne.symm d.pq), hd]; exact d.hq
  · refine ⟨hr.1, ?_⟩
    rcases hr.2 with hn | ⟨g, cap, cur, rfl, hb, hg, rest⟩
    · exact .inl hn
    · refine .inr ⟨g, cap, cur, rfl, hb, ?_, rest⟩
      rw [Below.heap_setCell _ _ _ _ (fun e => rp (by simp [Value.ownBlock, e]))]; exact hg
end

theorem own_shape {w : World} {base : Nat} {e : TypeId} {size n : Nat} {v : Value} {xs : List Value} (h : w.ownsRow base e size v n xs) : ∃ ao cap, v = .slice ao n cap := by
  rcases h.2 with ⟨h', h0⟩ | ⟨g, cap, cur, h1, _⟩
  · exact ⟨none, 0, by rw [h', h0]⟩
  · exact ⟨_, cap, h1⟩

end Go.Proofs.Ytodfcbpimglhdaa
/- What the device's small methods answer and leave behind, for every device, under the device's own invariant: turn, check, Dead, Blocks, Fuse. -/
namespace Go.Proofs.Ytodfcbpimglhdaa
open Go.RowKit

/-- Block p is a device that says D, wherever its rows lie. -/
def Stands (S : Nat → Prop) (w : World) (p : Nat) (D : DevS) : Prop := ∃ q pv, Dev S w p q pv D
theorem Stands.kept {S : Nat → Prop} {w w' : World} {p : Nat} {D : DevS} {T : Nat → Prop} (d : Stands S w p D) (h : Only T w w') (hT : ∀ k, S k → ¬ T k) : Stands S w' p D := by
  obtain ⟨q, pv, d⟩ := d; exact ⟨q, pv, d.kept h hT⟩
theorem Stands.below {S : Nat → Prop} {w w' : World} {p : Nat} {D : DevS} (d : Stands S w p D) (h : Below w.heap.size w w') : Stands S w' p D :=
  d.kept (Only.of_below (fun _ => False) h (Nat.le_refl _)) (fun _ _ f => f)
theorem Stands.ok {S : Nat → Prop} {w : World} {p : Nat} {D : DevS} (d : Stands S w p D) : D.Ok := by obtain ⟨q, pv, d⟩ := d; exact d.ok
theorem Stands.lt {S : Nat → Prop} {w : World} {p : Nat} {D : DevS} (d : Stands S w p D) : ∀ k, S k → k < w.heap.size := by obtain ⟨q, pv, d⟩ := d; exact d.lt

/-- What a call that may write on a device leaves: it says D', on its own blocks and new ones; all other blocks are as they were. -/
def Leaves (S : Nat → Prop) (w w' : World) (p : Nat) (D' : DevS) : Prop :=
  ∃ S' : Nat → Prop, (∀ k, S' k → S k ∨ w.heap.size ≤ k) ∧ Stands S' w' p D' ∧ Only S w w'
theorem Leaves.mk {S : Nat → Prop} {w w' : World} {p : Nat} {D : DevS} (d : Stands S w' p D) (h : Only S w w') : Leaves S w w' p D := ⟨S, fun _ => .inl, d, h⟩

section
variable {S : Nat → Prop} {w : World} {p q : Nat} {pv : Value} {D : DevS}

/-- One turn. -/
def DevS.tk (D : DevS) : Bool × DevS := if D.fused = false then (true, D) else if D.fuse = 0 then (false, { D with dead := true }) else (true, { D with fuse := D.fuse - 1 })
/-- Why block i can't be used. -/
def DevS.ck (D : DevS) (i : Int) : Int := if D.dead then 4 else if i < 0 ∨ (D.disk.length : Int) ≤ i then 2 else 0
def DevS.setFuse (D : DevS) (n : Int) : DevS := { D with fused := decide (0 ≤ n), fuse := max n 0 }

theorem DevS.Ok.tk (ok : D.Ok) : D.tk.2.Ok := by
  unfold DevS.tk; split
  · exact ok
  · split
    · exact ⟨ok.some, ok.few, ok.whole, ok.pends, ok.fuse0, ok.fuse1⟩
    · exact ⟨ok.some, ok.few, ok.whole, ok.pends, by have := ok.fuse0; simp; omega, by have := ok.fuse1; simp; omega⟩

set_option maxRecDepth 100000 in
set_option maxHeartbeats 400000 in
theorem turn_free (p : Nat) (w : World) (h2 : w.cell? ⟨p, 2, none⟩ = some (.bool false)) :
    Calls Try.prog 45 #[.pointer (some ⟨p, 0, none⟩)] w fun e w' => e = .returned (.bool true) ∧ w = w' := by
  go_enter Try.func45, Try.ntmps45
  go_wp2
  go_ret
  exact ⟨rfl, rfl⟩

set_option maxRecDepth 100000 in
set_option maxHeartbeats 400000 in
theorem turn_dies (p : Nat) (w : World) (h2 : w.cell? ⟨p, 2, none⟩ = some (.bool true)) (h3 : w.cell? ⟨p, 3, none⟩ = some (.int .i64 0)) (de : Bool) (h4 : w.cell? ⟨p, 4, none⟩ = some (.bool de)) (hf : w.frozen? ⟨p, 4, none⟩ = false) :
    Calls Try.prog 45 #[.pointer (some ⟨p, 0, none⟩)] w fun e w' => e = .returned (.bool false) ∧ w' = w.setCell ⟨p, 4, none⟩ (.bool true) := by
  go_enter Try.func45, Try.ntmps45
  go_wp2
  go_ret
  exact ⟨rfl, rfl⟩

set_option maxRecDepth 100000 in
set_option maxHeartbeats 400000 in
theorem turn_goes (p : Nat) (w : World) (n : Int) (hn : 1 ≤ n) (hm : n ≤ 9223372036854775807) (h2 : w.cell? ⟨p, 2, none⟩ = some (.bool true)) (h3 : w.cell? ⟨p, 3, none⟩ = some (.int .i64 n)) (hf : w.frozen? ⟨p, 3, none⟩ = false) :
    Calls Try.prog 45 #[.pointer (some ⟨p, 0, none⟩)] w fun e w' => e = .returned (.bool true) ∧ w' = w.setCell ⟨p, 3, none⟩ (.int .i64 (n - 1)) := by
  have h0 : (n == 0) = false := by simp; omega
  go_enter Try.func45, Try.ntmps45
  go_wp2
  go_ret
  exact ⟨rfl, rfl⟩

/-- A turn, at every device. -/
theorem turn_any (d : Dev S w p q pv D) :
    Calls Try.prog 45 #[.pointer (some ⟨p, 0, none⟩)] w fun e w' => e = .returned (.bool D.tk.1) ∧ Dev S w' p q pv D.tk.2 ∧ Only S w w' ∧ w'.heap.size = w.heap.size := by
  have c2 := d.c2; have c3 := d.c3; have f3 := d.f 3; have f4 := d.f 4; have c4 := d.c4
  by_cases hf : D.fused = false
  · rw [hf] at c2
    refine (turn_free p w c2).mono fun e w' ⟨he, hw⟩ => ?_
    subst hw
    refine ⟨?_, ?_, Only.refl _ _, rfl⟩
    · simp [DevS.tk, hf, he]
    · simpa [DevS.tk, hf] using d
  · have hft : D.fused = true := by simpa using hf
    rw [hft] at c2
    by_cases h0 : D.fuse = 0
    · rw [h0] at c3
      refine (turn_dies p w c2 c3 D.dead c4 f4).mono fun e w' ⟨he, hw⟩ => ?_
      subst hw
      have e2 : D.tk = (false, { D with dead := true }) := by simp [DevS.tk, hft, h0]
      rw [e2]
      refine ⟨he, d.put 4 _ _ pv ⟨d.ok.some, d.ok.few, d.ok.whole, d.ok.pends, d.ok.fuse0, d.ok.fuse1⟩ rfl rfl d.hr d.rp d.rq d.sr, (Only.refl _ _).setCell (fun _ => d.sp) _, by simp [World.setCell]⟩
    · have b0 := d.ok.fuse0; have b1 := d.ok.fuse1
      refine (turn_goes p w D.fuse (by omega) b1 c2 c3 f3).mono fun e w' ⟨he, hw⟩ => ?_
      subst hw
      have e2 : D.tk = (true, { D with fuse := D.fuse - 1 }) := by simp [DevS.tk, hft, h0]
      rw [e2]
      refine ⟨he, d.put 3 _ _ pv ⟨d.ok.some, d.ok.few, d.ok.whole, d.ok.pends, by simp; omega, by simp; omega⟩ rfl rfl d.hr d.rp d.rq d.sr, (Only.refl _ _).setCell (fun _ => d.sp) _, by simp [World.setCell]⟩

set_option maxRecDepth 100000 in
set_option maxHeartbeats 400000 in
theorem check_any (i : Int) (d : Dev S w p q pv D) :
    Calls Try.prog 44 #[.pointer (some ⟨p, 0, none⟩), .int .i64 i] w fun e w' => e = .returned (.int .i64 (D.ck i)) ∧ w = w' := by
  have c0 := d.c0; have c4 := d.c4; have hn := d.ok.few
  have HK : Hid (D.ck i = if D.dead then 4 else if i < 0 ∨ (D.disk.length : Int) ≤ i then 2 else 0) := rfl
  generalize D.ck i = r at HK ⊢
  generalize D.dead = de at *
  generalize D.disk.length = n at *
  clear d
  cases de
  · by_cases h1 : i < 0
    · go_enter Try.func44, Try.ntmps44
      go_wp2
      go_ret
      exact ⟨by rw [HK.out]; simp [h1], rfl⟩
    · by_cases h2 : (n : Int) ≤ i
      · go_enter Try.func44, Try.ntmps44
        go_wp2
        go_ret
        exact ⟨by rw [HK.out]; simp [h2], rfl⟩
      · go_enter Try.func44, Try.ntmps44
        go_wp2
        go_ret
        exact ⟨by rw [HK.out]; simp [h1, h2], rfl⟩
  · go_enter Try.func44, Try.ntmps44
    go_wp2
    go_ret
    exact ⟨by rw [HK.out]; rfl, rfl⟩

set_option maxRecDepth 100000 in
set_option maxHeartbeats 400000 in
theorem dead_any (d : Stands S w p D) :
    Calls Try.prog 39 #[.pointer (some ⟨p, 0, none⟩)] w fun e w' => e = .returned (.bool D.dead) ∧ w = w' := by
  obtain ⟨q, pv, d⟩ := d
  have c4 := d.c4
  clear d
  go_enter Try.func39, Try.ntmps39
  go_wp2
  go_ret
  exact ⟨rfl, rfl⟩

set_option maxRecDepth 100000 in
set_option maxHeartbeats 400000 in
theorem blocks_any (d : Stands S w p D) :
    Calls Try.prog 38 #[.pointer (some ⟨p, 0, none⟩)] w fun e w' => e = .returned (.int .i64 D.disk.length) ∧ w = w' := by
  obtain ⟨q, pv, d⟩ := d
  have c0 := d.c0; have hn := d.ok.few
  clear d
  go_enter Try.func38, Try.ntmps38
  go_wp2
  go_ret
  exact ⟨rfl, rfl⟩

end
end Go.Proofs.Ytodfcbpimglhdaa
/- An append onto a row of one's own, and where the row lies behind it: where it lay, or in a new block. -/
namespace Go.Proofs.Ytodfcbpimglhdaa
open Go.RowKit

/-- A row that is not empty lies somewhere. -/
theorem own_succ {w : World} {base : Nat} {e : TypeId} {size n : Nat} {v : Value} {xs : List Value} (h : w.ownsRow base e size v (n + 1) xs) : ∃ g cap, v = .slice (some ⟨g, 0, none⟩) (n + 1) cap := by
  rcases h.2 with ⟨_, h0⟩ | ⟨g, cap, cur, hv, _⟩
  · omega
  · exact ⟨g, cap, hv⟩

section
variable {P : Program} (w : World)
theorem run_append_where (base : Nat) (t ty e : TypeId) (i : TypeInfo) (z : Value) (size bytes : Nat) (ht : P.underlying t = some (.slice e)) (hi : P.info? e = some i) (hz : i.zero = some z)
    (hsize : i.size = size) (hby : i.bytes = bytes) (hzs : z.cells.size = size) (hsz : 0 < size)
    (v : Value) (n : Nat) (xs : List Value) (hown : w.ownsRow base e size v n xs)
    (a : Addr) (m c : Nat) (news : List Value) (hl : news.length = m * size) (hnews : ∀ j u, news[j]? = some u → w.cell? (a.add j) = some u) (h1 : ∀ u ∈ news, u.oneCell' = true)
    (h63 : n + m ≤ maxLen) (hbytes : (n + m) * bytes ≤ 140737488355328) (hbase : base ≤ w.heap.size) :
    ∃ v' w', (Builtin.append_ #[t, t] ty #[v, .slice (some a) m c]).run P w = .ok v' w' ∧ w'.ownsRow base e size v' (n + m) (xs ++ news) ∧ w.grownBy w' v.ownBlock ∧
      (∀ k, v'.ownBlock = some k → v.ownBlock = some k ∨ w.heap.size ≤ k) := by
  obtain ⟨v', w', hr, h2, h3, _⟩ := run_append_own (P := P) w base t ty e i z size bytes ht hi hz hsize hby hzs hsz v n xs hown a m c news hl hnews h1 h63 hbytes hbase
  refine ⟨v', w', hr, h2, h3, ?_⟩
  rcases hown.2 with ⟨rfl, rfl⟩ | ⟨g, cap, cur, rfl, hb, hg, hnc, hcm, hcs, htk⟩
  · have hx : xs = [] := List.eq_nil_of_length_eq_zero (by simpa using hown.1)
    subst hx
    obtain ⟨v2, w2, hr', h2', _, _⟩ := run_append_own (P := P) w w.heap.size t ty e i z size bytes ht hi hz hsize hby hzs hsz (.slice none 0 0) 0 [] (World.ownsRow_nil w _ e size) a m c news hl hnews h1 h63 hbytes (Nat.le_refl _)
    rw [hr] at hr'
    cases hr'
    intro k hk
    exact .inr (h2'.lt k hk).1
  · subst hsize
    subst hby
    by_cases hroom : n + m ≤ cap
    · have hfit : n * i.size + news.length ≤ cur.size := by rw [hl, hcs, ← Nat.add_mul]; exact Nat.mul_le_mul_right _ hroom
      have hr' := run_append_room (P := P) w t ty e i ht hi g n cap cur hg a m c news hl hnews h1 hroom hfit
      rw [hr] at hr'
      cases hr'
      intro k hk
      exact .inl hk
    · have hsmall : n + m ≤ 9223372036854775807 := by simp only [maxLen] at h63; omega
      have hr' := run_append_grow (P := P) w t ty e i z ht hi hz ⟨g, 0, none⟩ n cap xs hown.1 (hown.cells (g := g) rfl) a m c news hl hnews (by omega) (by omega) (growslice_fits (by omega) hbytes)
      rw [hr] at hr'
      cases hr'
      intro k hk
      simp [Value.ownBlock] at hk
      exact .inr (by omega)

theorem wpList_append_where {ops : Array Oper} {rest : List Oper} {o : Oper} {a : Act} {Q : Exit → Act → World → Prop} (hgd : o.guard = none) (s x : Operand) (t : TypeId)
    (ho : o.op = .call { callee := .builtin .append, args := #[s, x], argTypes := #[t, t] })
    (base : Nat) (e : TypeId) (i : TypeInfo) (z : Value) (size bytes : Nat) (ht : P.underlying t = some (.slice e)) (hi : P.info? e = some i) (hz : i.zero = some z)
    (hsize : i.size = size) (hby : i.bytes = bytes) (hzs : z.cells.size = size) (hsz : 0 < size)
    (v : Value) (n : Nat) (xs : List Value) (hs : a.eval s = v) (hown : w.ownsRow base e size v n xs)
    (ad : Addr) (m c : Nat) (news : List Value) (hx : a.eval x = .slice (some ad) m c) (hl : news.length = m * size) (hnews : ∀ j u, news[j]? = some u → w.cell? (ad.add j) = some u) (h1 : ∀ u ∈ news, u.oneCell' = true)
    (h63 : n + m ≤ maxLen) (hbytes : (n + m) * bytes ≤ 140737488355328) (hbase : base ≤ w.heap.size)
    (h : ∀ v' w', w'.ownsRow base e size v' (n + m) (xs ++ news) → w.grownBy w' v.ownBlock → (∀ k, v'.ownBlock = some k → v.ownBlock = some k ∨ w.heap.size ≤ k) → wpList P ops Q rest (a.put o.dst v') w') : wpList P ops Q (o :: rest) a w := by
  refine wpList_plain hgd fun _ hK => ?_
  obtain ⟨v', w', hr, h2, h3, h4⟩ := run_append_where (P := P) w base t o.type e i z size bytes ht hi hz hsize hby hzs hsz v n xs hown ad m c news hl hnews h1 h63 hbytes hbase
  unfold Oper.wp execOp
  simp only [ho, resolve, invoke, builtin, Sem.run_bind, Sem.run_pure, Result.andThen_ok, List.map_toArray, List.map_cons, List.map_nil, hs, hx, hr]
  exact hK _ _ (h v' w' h2 h3 h4)
end
end Go.Proofs.Ytodfcbpimglhdaa
/- What Fuse and Write answer and leave behind, for every device. -/
namespace Go.Proofs.Ytodfcbpimglhdaa
open Go.RowKit
section
variable {S : Nat → Prop} {w : World} {p q : Nat} {pv : Value} {D : DevS}

theorem DevS.Ok.setFuse (ok : D.Ok) (n : Int) (hn : n ≤ 9223372036854775807) : (D.setFuse n).Ok :=
  ⟨ok.some, ok.few, ok.whole, ok.pends, by simp [DevS.setFuse]; omega, by simp [DevS.setFuse]; omega⟩

set_option maxRecDepth 100000 in
set_option maxHeartbeats 400000 in
theorem fuse_walk (p : Nat) (w : World) (n k : Int) (b : Bool) (c2 : w.cell? ⟨p, 2, none⟩ = some (.bool b)) (c3 : w.cell? ⟨p, 3, none⟩ = some (.int .i64 k)) (f2 : w.frozen? ⟨p, 2, none⟩ = false) (f3 : w.frozen? ⟨p, 3, none⟩ = false) :
    Calls Try.prog 27 #[.pointer (some ⟨p, 0, none⟩), .int .i64 n] w fun e w' => e = .returned (.tuple #[]) ∧ w' = (w.setCell ⟨p, 2, none⟩ (.bool (decide (0 ≤ n)))).setCell ⟨p, 3, none⟩ (.int .i64 (max n 0)) := by
  by_cases h : 0 ≤ n
  · rw [show max n 0 = n from by omega, show decide (0 ≤ n) = true from by simpa using h]
    go_enter Try.func27, Try.ntmps27
    go_wp2
    go_end0
    exact ⟨rfl, rfl⟩
  · have h' : n < 0 := by omega
    rw [show max n 0 = 0 from by omega, show decide (0 ≤ n) = false from by simpa using h]
    go_enter Try.func27, Try.ntmps27
    go_wp2
    go_end0
    exact ⟨rfl, rfl⟩

theorem fuse_dev (n : Int) (hn : n ≤ 9223372036854775807) (d : Dev S w p q pv D) :
    Calls Try.prog 27 #[.pointer (some ⟨p, 0, none⟩), .int .i64 n] w fun e w' => e = .returned (.tuple #[]) ∧ Dev S w' p q pv (D.setFuse n) ∧ Only S w w' ∧ w'.heap.size = w.heap.size := by
  refine (fuse_walk p w n _ _ d.c2 d.c3 (d.f 2) (d.f 3)).mono fun e w' ⟨he, hw⟩ => ?_
  subst hw
  have d1 := d.put 2 (.bool (decide (0 ≤ n))) { D with fused := decide (0 ≤ n) } pv ⟨d.ok.some, d.ok.few, d.ok.whole, d.ok.pends, d.ok.fuse0, d.ok.fuse1⟩ rfl rfl d.hr d.rp d.rq d.sr
  have d2 := d1.put 3 (.int .i64 (max n 0)) (D.setFuse n) pv (d.ok.setFuse n hn) rfl rfl d1.hr d.rp d.rq d.sr
  exact ⟨he, d2, ((Only.refl _ _).setCell (fun _ => d.sp) _).setCell (fun _ => d.sp) _, by simp [World.setCell]⟩

theorem fuse_any (n : Int) (hn : n ≤ 9223372036854775807) (d : Stands S w p D) :
    Calls Try.prog 27 #[.pointer (some ⟨p, 0, none⟩), .int .i64 n] w fun e w' => e = .returned (.tuple #[]) ∧ Stands S w' p (D.setFuse n) ∧ Only S w w' := by
  obtain ⟨q, pv, d⟩ := d
  exact (fuse_dev n hn d).mono fun e w' ⟨he, h1, h2, _⟩ => ⟨he, ⟨q, pv, h1⟩, h2⟩

theorem DevS.tk_pend (D : DevS) : D.tk.2.pend = D.pend := by unfold DevS.tk; (repeat' split) <;> rfl
theorem DevS.tk_disk (D : DevS) : D.tk.2.disk = D.disk := by unfold DevS.tk; (repeat' split) <;> rfl

/-- Behind an append onto the row of pending writes: the cells that are read then, and the device once the new row is stored. -/
theorem Dev.pushed {w1 w2 : World} {o : Obj} {v' : Value} {n : Nat} {xs : List Value} (d : Dev S w1 p q pv D) (hown : w2.ownsRow 0 71 2 v' n xs) (hg : (w1.alloc o).grownBy w2 pv.ownBlock)
    (hwh : ∀ k, v'.ownBlock = some k → pv.ownBlock = some k ∨ w1.heap.size + 1 ≤ k) :
    w2.cell? ⟨p, 1, none⟩ = some pv ∧ w2.frozen? ⟨p, 1, none⟩ = false ∧
    ∀ D' : DevS, D'.Ok → D'.disk = D.disk → D'.fused = D.fused → D'.fuse = D.fuse → D'.dead = D.dead → n = D'.pend.length → xs = flatW D'.pend →
      Dev (fun k => S k ∨ (w1.heap.size ≤ k ∧ k < w2.heap.size)) (w2.setCell ⟨p, 1, none⟩ v') p q v' D' ∧ Only S w1 (w2.setCell ⟨p, 1, none⟩ v') := by
  have lp := d.lt p d.sp; have lq := d.lt q d.sq
  have hp2 : w2.heap[p]? = w1.heap[p]? := by rw [hg.block p (by simp; omega) (fun e => d.rp e.symm), Below.heap_alloc _ _ _ lp]
  have hq2 : w2.heap[q]? = w1.heap[q]? := by rw [hg.block q (by simp; omega) (fun e => d.rq e.symm), Below.heap_alloc _ _ _ lq]
  have hz := hg.size; simp at hz
  refine ⟨?_, ?_, ?_⟩
  · rw [World.cell?_of_block (w := w1) hp2]; exact d.c1
  · rw [World.frozen?_of_block (w := w1) hp2]; exact d.f 1
  · intro D' ok hd hf hn hde hln hxs
    subst hln hxs
    have np : v'.ownBlock ≠ some p := fun e => by
      rcases hwh p e with h | h
      · exact d.rp h
      · omega
    have nq : v'.ownBlock ≠ some q := fun e => by
      rcases hwh q e with h | h
      · exact d.rq h
      · omega
    have hO : Only S w1 w2 := by
      refine (((Only.refl S w1).alloc o)).trans (T := fun k => some k = pv.ownBlock) ⟨hg.os, hg.tape, hg.output, hg.size, fun k hk hne => hg.block k hk hne⟩ ?_
      intro i _ hi
      exact d.sr i hi.symm
    refine ⟨⟨ok, ?_, ?_, ?_, d.pq, np, nq, .inl d.sp, .inl d.sq, ?_, ?_⟩, hO.setCell (fun _ => d.sp) _⟩
    · rw [heap_setCell_at (hp2.trans d.hp), hd, hf, hn, hde]; rfl
    · rw [Below.heap_setCell _ _ _ _ (Ne.symm d.pq), hd, hq2]; exact d.hq
    · exact ownsRow_setCell_other hown (by simpa using np) _
    · intro k hk
      rcases hwh k hk with h | h
      · exact .inl (d.sr k h)
      · exact .inr ⟨by omega, (hown.lt k hk).2⟩
    · intro k hk
      have : (w2.setCell ⟨p, 1, none⟩ v').heap.size = w2.heap.size := by simp [World.setCell]
      rw [this]
      rcases hk with h | h
      · have := d.lt k h; omega
      · exact h.2

theorem _root_.Go.Proofs.Try.infoW : (Try.prog.info? 71).map (fun i => (i.zero, i.size, i.bytes)) = some (some (.agg #[.int .i64 0, .string ⟨#[]⟩]), 2, 24) := by kernel_rfl

set_option maxRecDepth 100000 in
set_option maxHeartbeats 400000 in
theorem write_adds (i : Int) (s : ByteArray) (hs : s.size = 256) (hl : D.pend.length ≤ 1000000) (hck : D.ck i = 0) (htk : D.tk.1 = true) (d : Dev S w p q pv D) :
    Calls Try.prog 13 #[.pointer (some ⟨p, 0, none⟩), .int .i64 i, .string s] w fun e w' => e = .returned (.int .i64 0) ∧ Leaves S w w' p { D.tk.2 with pend := D.pend ++ [(i.toNat, s)] } := by
  have cT := turn_any d; rw [htk] at cT
  have HT := Lib.hid cT; clear cT
  have cK := check_any i d; rw [hck] at cK
  have HK := Lib.hid cK; clear cK
  have H1 := Lib.hid hck; clear hck
  have H2 := Lib.hid htk; clear htk
  have H3 := Lib.hid hs
  have hs' : ((s.size : Int) != 256) = false := by simp [hs]
  clear hs
  have HD := Lib.hid d; clear d
  go_enter Try.func13, Try.ntmps13
  go_wp2_with fail
  refine HK.out.mono ?_
  rintro e w' ⟨rfl, rfl⟩
  go_wp2_with fail
  refine HT.out.mono ?_
  rintro e w1 ⟨rfl, hd1, ho1, hz1⟩
  have HD1 := Lib.hid hd1
  have c1 := hd1.c1
  have f1 := hd1.f 1
  clear hd1
  have HO := Lib.hid ho1; clear ho1
  have HZ := Lib.hid hz1; clear hz1
  obtain ⟨i0, hi, hz0, hz1, hz2⟩ := info_parts Try.infoW
  go_wp2_with (at_builtin; refine wpList_append_where _ rfl _ _ 42 rfl 0 71 i0 _ 2 24 Try.underlying42 hi hz0 hz1 hz2 rfl (by decide) _ _ _ rfl (HD1.out.hr.alloc _) ⟨w1.heap.size, 0, none⟩ 1 1 [.int .i64 i, .string s] rfl rfl ?c1 ?c2 ?c3 ?c4 ?c5 ?_)
  case c1 =>
    intro j u hj
    match j, hj with
    | 0, hj => simp at hj; subst hj; simp [Addr.add]
    | 1, hj => simp at hj; subst hj; simp [Addr.add]
  case c2 => intro u hu; simp at hu; rcases hu with rfl | rfl <;> rfl
  case c3 => rw [DevS.tk_pend]; unfold maxLen; omega
  case c4 => rw [DevS.tk_pend]; omega
  case c5 => exact Nat.zero_le _
  intro v' w2 hown' hgrow hwhere
  obtain ⟨g, cap, rfl⟩ := own_succ hown'
  have HP := Lib.hid (HD1.out.pushed hown' hgrow hwhere); clear hown' hwhere
  have c1' : w2.cell? ⟨p, 1, none⟩ = some pv := HP.out.1
  have f1' : w2.frozen? ⟨p, 1, none⟩ = false := HP.out.2.1
  clear hgrow c1 f1
  go_wp2
  go_ret
  have hk0 : 0 ≤ i ∧ i < D.disk.length := by
    have := H1.out
    unfold DevS.ck at this
    split at this
    · omega
    · split at this <;> omega
  have ok1 := HD1.out.ok
  have hp := HP.out.2.2 { D.tk.2 with pend := D.pend ++ [(i.toNat, s)] } ⟨ok1.some, ok1.few, ok1.whole, ?_, ok1.fuse0, ok1.fuse1⟩ rfl rfl rfl rfl (by simp [DevS.tk_pend]) (by simp [DevS.tk_pend, flatW_append, flatW]; omega)
  · refine ⟨rfl, _, ?_, ⟨q, _, hp.1⟩, HO.out.trans hp.2 (fun _ _ h => h)⟩
    intro k hk
    rcases hk with h | h
    · exact .inl h
    · exact .inr (by have := HZ.out; omega)
  · intro x hx
    simp only [List.mem_append, List.mem_singleton] at hx
    rcases hx with h | rfl
    · exact ok1.pends x (by rw [DevS.tk_pend]; exact h)
    · exact ⟨by rw [DevS.tk_disk]; omega, H3.out⟩

set_option maxRecDepth 100000 in
set_option maxHeartbeats 400000 in
theorem write_no (i : Int) (s : ByteArray) (r : Int) (hr : (r != 0) = true) (hck : D.ck i = r) (d : Dev S w p q pv D) :
    Calls Try.prog 13 #[.pointer (some ⟨p, 0, none⟩), .int .i64 i, .string s] w fun e w' => e = .returned (.int .i64 r) ∧ w = w' := by
  have cK := check_any i d; rw [hck] at cK
  have HK := Lib.hid cK; clear cK
  clear hck d
  go_enter Try.func13, Try.ntmps13
  go_wp2_with fail
  refine HK.out.mono ?_
  rintro e w' ⟨rfl, rfl⟩
  go_wp2
  go_ret
  exact ⟨rfl, rfl⟩

set_option maxRecDepth 100000 in
set_option maxHeartbeats 400000 in
theorem write_size (i : Int) (s : ByteArray) (hs : ((s.size : Int) != 256) = true) (hck : D.ck i = 0) (d : Dev S w p q pv D) :
    Calls Try.prog 13 #[.pointer (some ⟨p, 0, none⟩), .int .i64 i, .string s] w fun e w' => e = .returned (.int .i64 3) ∧ w = w' := by
  have cK := check_any i d; rw [hck] at cK
  have HK := Lib.hid cK; clear cK
  clear hck d
  go_enter Try.func13, Try.ntmps13
  go_wp2_with fail
  refine HK.out.mono ?_
  rintro e w' ⟨rfl, rfl⟩
  go_wp2
  go_ret
  exact ⟨rfl, rfl⟩

set_option maxRecDepth 100000 in
set_option maxHeartbeats 400000 in
theorem write_dies (i : Int) (s : ByteArray) (hs : ((s.size : Int) != 256) = false) (hck : D.ck i = 0) (htk : D.tk.1 = false) (d : Dev S w p q pv D) :
    Calls Try.prog 13 #[.pointer (some ⟨p, 0, none⟩), .int .i64 i, .string s] w fun e w' => e = .returned (.int .i64 4) ∧ Dev S w' p q pv D.tk.2 ∧ Only S w w' := by
  have cK := check_any i d; rw [hck] at cK
  have HK := Lib.hid cK; clear cK
  have cT := turn_any d; rw [htk] at cT
  have HT := Lib.hid cT; clear cT
  clear hck htk d
  go_enter Try.func13, Try.ntmps13
  go_wp2_with fail
  refine HK.out.mono ?_
  rintro e w' ⟨rfl, rfl⟩
  go_wp2_with fail
  refine HT.out.mono ?_
  rintro e w1 ⟨rfl, hd1, ho1, hz1⟩
  have HD1 := Lib.hid hd1; clear hd1 hz1
  have HO := Lib.hid ho1; clear ho1
  go_wp2
  go_ret
  exact ⟨rfl, HD1.out, HO.out⟩

/-- A write: its error, and the device behind it. -/
def DevS.wr (D : DevS) (i : Int) (s : ByteArray) : Int × DevS :=
  if D.ck i ≠ 0 then (D.ck i, D) else if s.size ≠ 256 then (3, D) else if D.tk.1 = false then (4, D.tk.2) else (0, { D.tk.2 with pend := D.pend ++ [(i.toNat, s)] })

theorem write_any (i : Int) (s : ByteArray) (hl : D.pend.length ≤ 1000000) (d : Stands S w p D) :
    Calls Try.prog 13 #[.pointer (some ⟨p, 0, none⟩), .int .i64 i, .string s] w fun e w' => e = .returned (.int .i64 (D.wr i s).1) ∧ Leaves S w w' p (D.wr i s).2 := by
  obtain ⟨q, pv, d⟩ := d
  by_cases h1 : D.ck i = 0
  · by_cases h2 : s.size = 256
    · by_cases h3 : D.tk.1 = false
      · have e : D.wr i s = (4, D.tk.2) := by simp [DevS.wr, h1, h2, h3]
        rw [e]
        exact (write_dies i s (by simp [h2]) h1 h3 d).mono fun e w' ⟨he, hd, ho⟩ => ⟨he, .mk ⟨q, pv, hd⟩ ho⟩
      · have e : D.wr i s = (0, { D.tk.2 with pend := D.pend ++ [(i.toNat, s)] }) := by simp [DevS.wr, h1, h2, h3]
        rw [e]
        exact write_adds i s h2 hl h1 (by simpa using h3) d
    · have e : D.wr i s = (3, D) := by simp [DevS.wr, h1, h2]
      rw [e]
      exact (write_size i s (by simp; omega) h1 d).mono fun e w' ⟨he, hw⟩ => by subst hw; exact ⟨he, .mk ⟨q, pv, d⟩ (Only.refl _ _)⟩
  · have e : D.wr i s = (D.ck i, D) := by simp [DevS.wr, h1]
    rw [e]
    exact (write_no i s _ (by simpa using h1) rfl d).mono fun e w' ⟨he, hw⟩ => by subst hw; exact ⟨he, .mk ⟨q, pv, d⟩ (Only.refl _ _)⟩

end
end Go.Proofs.Ytodfcbpimglhdaa
/- What block.New answers, for every number: a new device of so many empty blocks, or ErrRange and nil; nothing that was there is changed. -/
namespace Go.Proofs.Ytodfcbpimglhdaa
open Go.RowKit

/-- n cells, of which the first k are s, the others empty texts. -/
def fillS (s : ByteArray) (n k : Nat) : List Value := List.replicate k (Value.string s) ++ List.replicate (n - k) (Value.string ⟨#[]⟩)
theorem fillS_length (s : ByteArray) (n k : Nat) (h : k ≤ n) : (fillS s n k).length = n := by simp [fillS]; omega
theorem fillS_splice (s : ByteArray) (n k m : Nat) : splice (fillS s n k) k (List.replicate m (Value.string s)) = fillS s n (k + m) := by
  unfold splice fillS
  rw [List.take_left' (by simp), List.length_replicate, List.drop_append]
  simp only [List.drop_replicate, List.length_replicate]
  rw [show k - (k + m) = 0 from by omega, show k + m - k = m from by omega, show n - k - m = n - (k + m) from by omega, List.replicate_zero, List.nil_append, ← List.append_assoc, List.replicate_append_replicate]
theorem fillS_get (s : ByteArray) (n k j : Nat) (h : j < k) : (fillS s n k)[j]? = some (.string s) := by
  unfold fillS
  rw [List.getElem?_append_left (by simpa using h)]
  simp [h]
theorem fillS_zero (s : ByteArray) (n : Nat) : fillS s n 0 = List.replicate n (Value.string ⟨#[]⟩) := by simp [fillS]
theorem fillS_all (s : ByteArray) (n : Nat) : fillS s n n = List.replicate n (Value.string s) := by simp [fillS]

theorem _root_.Go.Proofs.Try.infoS : (Try.prog.info? 9).map (fun i => (i.zero, i.size, i.bytes)) = some (some (.string ⟨#[]⟩), 1, 16) := by kernel_rfl
theorem sizeS : (Try.prog.info? 9).map (·.size) = some 1 := by kernel_rfl

theorem mul_one_any (n : Nat) (hn : n ≤ 4096) (w : World) :
    Calls Try.prog 69 #[.int .u64 1, .int .u64 n] w fun e w' => e = .returned (.tuple #[.int .u64 0, .int .u64 n]) ∧ w = w' := by
  have h := Try.bits_Mul 1 n (by omega) (by omega) w
  have e1 : 1 * n / 18446744073709551616 = 0 := by omega
  have e2 : 1 * n % 18446744073709551616 = n := by omega
  rw [e1, e2] at h
  exact h.mono fun e w' ⟨he, hw⟩ => ⟨he, hw.symm⟩

/-- A row that is full to its end is the whole block. -/
theorem own_full {w : World} {B e g n : Nat} {xs : List Value} (h : w.ownsRow B e 1 (.slice (some ⟨g, 0, none⟩) n n) n xs) : w.heap[g]? = some (.cells xs.toArray e (0, 0)) := by
  rcases h.2 with ⟨h0, _⟩ | ⟨g', cap, cur, hv, hb, hg, hnc, hcm, hcs, htk⟩
  · cases h0
  · cases hv
    have e : cur.toList = xs := by rw [← htk]; exact (List.take_of_length_le (by simp [hcs])).symm
    rw [hg, ← e]

set_option maxRecDepth 100000 in
set_option maxHeartbeats 2000000 in
theorem slRepeat_any (s : ByteArray) (n b c : Nat) (w : World) (h1 : 1 ≤ n) (hn : n ≤ 4096) (hc : w.cell? ⟨b, 0, none⟩ = some (.string s)) :
    Calls Try.prog 42 #[.slice (some ⟨b, 0, none⟩) 1 c, .int .i64 n] w fun e w' => e = .returned (.slice (some ⟨w.heap.size, 0, none⟩) n n) ∧
      w'.heap[w.heap.size]? = some (.cells (List.replicate n (Value.string s)).toArray 9 (0, 0)) ∧ Below w.heap.size w w' := by
  have hbl : b < w.heap.size := World.block_lt_of_cell? w _ hc
  obtain ⟨i0, hi, hz0, hz1, hz2⟩ := info_parts Try.infoS
  have HZ2 := Lib.hid hz2; clear hz2
  go_enter Try.func42, Try.ntmps42
  go_wp2_with fail
  refine (mul_one_any n hn _).mono ?_
  rintro e w' ⟨rfl, rfl⟩
  go_wp2_with (at_make; refine wpList_make_full _ rfl _ _ 22 rfl w.heap.size 9 i0 (.string ⟨#[]⟩) 1 Try.underlying22 hi hz0 hz1 _ _ _ _ n rfl rfl rfl rfl (by rw [HZ2.out]; omega) (by unfold maxLen; omega) (Nat.le_refl _) ?_)
  intro w1 hown hgrow
  have HB : Hid (Below w.heap.size w w1) := (Below.refl _ _).grown hgrow (Nat.le_refl _) (fun k h => by cases h)
  have HR : Hid (w1.heap[w.heap.size]? = some (.cells (fillS s n 0).toArray 9 (0, 0))) := by
    rw [toList_madeCells_one] at hown
    rw [fillS_zero]
    exact own_full hown
  have hc1 : w1.cell? ⟨b, 0, none⟩ = some (.string s) := by rw [HB.out.cell (p := ⟨b, 0, none⟩) hbl]; exact hc
  clear hown hgrow hc
  obtain ⟨g, hg⟩ : ∃ g, w.heap.size = g := ⟨_, rfl⟩
  rw [hg] at HR HB hbl ⊢
  have HG := Lib.hid hg; clear hg
  obtain ⟨F, hF⟩ : ∃ F, F = fillS s n := ⟨_, rfl⟩
  have HFl : Hid (∀ k, k ≤ n → (F k).length = n) := by intro k hk; rw [hF]; exact fillS_length s n k hk
  have HFs : Hid (∀ k m, k + m ≤ n → splice (F k) k (List.replicate m (Value.string s)) = F (k + m)) := by intro k m _; rw [hF]; exact fillS_splice s n k m
  have HFg : Hid (∀ k j, j < k → (F k)[j]? = some (.string s)) := by intro k j hk; rw [hF]; exact fillS_get s n k j hk
  have HFn : Hid (F n = List.replicate n (Value.string s)) := by rw [hF]; exact fillS_all s n
  rw [← hF] at HR
  clear hF
  go_wp2_with (refine wpList_copy_splice (o := ⟨some 33, _, _, _, _, _⟩) rfl (.tmp 31) (.tmp 32) 22 22 rfl 9 Try.underlying22 sizeS _ _ _ _ _ _ rfl rfl g 0 (F 0) 9 HR.out [.string s] (by show 1 = min 1 n; omega) (fun _ => ⟨rfl, _, rfl, fun j v hj => by match j, hj with | 0, hj => simp at hj; subst hj; simpa [Addr.add] using hc1⟩) (by rw [HFl.out 0 (Nat.zero_le _)]; simp; omega) (fun v hv => by simp at hv; subst hv; rfl) g w HB.out (Nat.le_refl _) ?_)
  intro w2 hr2 hb2
  have HR2 : Hid (w2.heap[g]? = some (.cells (F 1).toArray 9 (0, 0))) := by
    have := HFs.out 0 1 (by omega)
    rw [List.replicate_one, Nat.zero_add] at this
    rw [← this]
    exact hr2.out
  have HB2 := Lib.hid hb2
  clear hr2 hb2 hc1
  go_wp2_with fail
  generalize Value.bool (decide ((9223372036854775807 : Int) < (n : Int))) = vb
  generalize Value.bool (decide ((n : Int) < 0)) = vb2
  go_loopw [8] (fun i wr => ∃ k : Nat, 1 ≤ k ∧ k ≤ n ∧ i = .int .i64 k ∧ Hid (wr.heap[g]? = some (.cells (F k).toArray 9 (0, 0))) ∧ Hid (Below g w wr)) (fun i _ => n - (intOf i).toNat)
  case atStart => exact ⟨1, Nat.le_refl _, h1, rfl, HR2, HB2⟩
  case round =>
    clear HR HB HR2 HB2
    obtain ⟨k, hk1, hk, rfl, HR, HB⟩ := hrel
    by_cases hlt : k < n
    · have hkz : (k : Int) < (n : Int) := by omega
      have hne : ¬ n = k := by omega
      obtain ⟨m, hm⟩ : ∃ m, m = Nat.min k (n - k) := ⟨_, rfl⟩
      have hm1 : m ≤ k := by rw [hm]; exact Nat.min_le_left _ _
      have hm2 : m + k ≤ n := by have : m ≤ n - k := by { rw [hm]; exact Nat.min_le_right _ _ }
                                 omega
      have hm3 : 1 ≤ m := by rw [hm]; exact Nat.le_min.2 ⟨hk1, by omega⟩
      have HM := Lib.hid hm; clear hm
      have HCS : Hid (∀ j v, (List.replicate m (Value.string s))[j]? = some v → wr.drew.cell? ((⟨g, 0, none⟩ : Addr).add j) = some v) := by
        intro j v hj
        have hj' : j < m := by simpa using (List.getElem?_eq_some_iff.1 hj).1
        have hv : v = .string s := by simp [hj'] at hj; exact hj.symm
        subst hv
        have hadd : (⟨g, 0, none⟩ : Addr).add j = ⟨g, j, none⟩ := by unfold Addr.add; split <;> simp_all
        have hR : wr.drew.heap[g]? = some (.cells (F k).toArray 9 (0, 0)) := HR.out
        rw [hadd, cell_at hR]
        simpa using HFg.out k j (by omega)
      have hlen : k + (List.replicate m (Value.string s)).length ≤ (F k).length := by rw [HFl.out k hk, List.length_replicate]; omega
      have HLen := Lib.hid hlen; clear hlen
      have hwk : IntKind.i64.wrap ((k : Int) + (m : Int)) = (k : Int) + (m : Int) := IntWalk.i64_in _ (by omega)
      go_wp2
      go_region_law (refine step_copy_splice rfl (.tmp 41) (.tmp 44) 22 22 rfl 9 Try.underlying22 sizeS (some ⟨g, k, none⟩) (some ⟨g, 0, none⟩) (n - k) (n - k) k n (by kernel_rfl) (by kernel_rfl) g k (F k) 9 HR.out (List.replicate m (Value.string s)) (by rw [List.length_replicate]; exact HM.out) (fun _ => ⟨rfl, _, rfl, HCS.out⟩) HLen.out (fun v hv => by rw [List.eq_of_mem_replicate hv]; rfl) g w HB.out.drew (Nat.le_refl _) ?_; intro w3 hr3 hb3)
      simp only [Act.put, List.getElem_toArray, List.getElem_cons_succ, List.getElem_cons_zero, List.setIfInBounds_toArray, List.set_cons_succ, List.set_cons_zero]
      go_wp2
      go_roundw
      case rel =>
        refine ⟨k + m, by omega, by omega, by go_num, ?_, hb3⟩
        have := HFs.out k m (by omega)
        rw [← this]; exact hr3
      case measure => simp [intOf]; omega
    · have hkn : k = n := by omega
      subst hkn
      go_wp2
      go_ret
      exact ⟨by rw [HG.out]; rfl, by rw [HG.out, ← HFn.out]; exact HR.out, by rw [HG.out]; exact HB.out⟩

theorem size_alloc (w : World) (o : Obj) : (w.alloc o).heap.size = w.heap.size + 1 := by simp
/-- An empty block. -/
def noughts : ByteArray := ⟨(Lib.repeatL [0] 256).toArray⟩
/-- A new device of n blocks. -/
def DevS.made (n : Nat) : DevS := ⟨List.replicate n noughts, [], false, 0, false⟩
theorem noughts_size : noughts.size = 256 := by decide +kernel
theorem DevS.made_ok (n : Nat) (h1 : 1 ≤ n) (h2 : n ≤ 4096) : (DevS.made n).Ok :=
  ⟨by simpa [DevS.made] using h1, by simpa [DevS.made] using h2, fun s hs => by rw [List.eq_of_mem_replicate hs]; exact noughts_size, (fun x h => by cases h), Int.le_refl _, by simp [DevS.made]⟩

theorem noughts_any (w : World) : Calls Try.prog 41 #[.string ⟨#[0]⟩, .int .i64 256] w fun e w' => e = .returned (.string noughts) ∧ Below w.heap.size w w' :=
  Try.strings_Repeat_main ⟨#[0]⟩ 256 w (by omega) (by omega) (by decide) (by decide)

set_option maxRecDepth 100000 in
set_option maxHeartbeats 1000000 in
theorem new_no (n : Int) (w : World) (h : n < 1 ∨ 4096 < n) :
    Calls Try.prog 11 #[.int .i64 n] w fun e w' => e = .returned (.tuple #[.pointer none, .int .i64 2]) ∧ w = w' := by
  rcases h with h | h
  · go_enter Try.func11, Try.ntmps11
    go_wp2
    go_ret2
    exact ⟨rfl, rfl⟩
  · have h' : ¬ n < 1 := by omega
    go_enter Try.func11, Try.ntmps11
    go_wp2
    go_ret2
    exact ⟨rfl, rfl⟩

/-- A new device lies in new blocks. -/
def Fresh (w w' : World) (p : Nat) (D : DevS) : Prop := ∃ S : Nat → Prop, (∀ k, S k → w.heap.size ≤ k) ∧ Stands S w' p D ∧ Below w.heap.size w w'

set_option maxRecDepth 100000 in
set_option maxHeartbeats 1000000 in
theorem new_yes (n : Nat) (w : World) (h1 : 1 ≤ n) (h2 : n ≤ 4096) :
    Calls Try.prog 11 #[.int .i64 n] w fun e w' => ∃ p, e = .returned (.tuple #[.pointer (some ⟨p, 0, none⟩), .int .i64 0]) ∧ Fresh w w' p (DevS.made n) := by
  have h1' : ¬ ((n : Int) < 1) := by omega
  have h2' : ¬ (4096 : Int) < (n : Int) := by omega
  go_enter Try.func11, Try.ntmps11
  go_wp2_with fail
  refine (noughts_any _).mono ?_
  rintro e w1 ⟨rfl, hb1⟩
  have HB1 := Lib.hid hb1; clear hb1
  have cR := slRepeat_any noughts n w1.heap.size 1 (w1.alloc (.cells #[.string noughts] 9)) h1 h2 (by simp)
  have HR := Lib.hid cR; clear cR
  obtain ⟨N, hN⟩ : ∃ N, noughts = N := ⟨_, rfl⟩
  rw [hN] at HR ⊢
  have HN := Lib.hid hN; clear hN
  go_wp2_with fail
  refine HR.out.mono ?_
  rintro e w2 ⟨rfl, hr2, hb2⟩
  have HR2 := Lib.hid hr2; clear hr2
  have HB2 := Lib.hid hb2; clear hb2
  have hz1 := HB1.out.size
  have hz2 := HB2.out.size
  have hr2' := HR2.out
  simp only [size_alloc] at hz2 hr2'
  have hlt2 : w1.heap.size + 1 < w2.heap.size := (Array.getElem?_eq_some_iff.1 hr2').1
  have HR3 := Lib.hid hr2'; clear hr2'
  go_wp2
  go_ret2
  refine ⟨w2.heap.size, rfl, fun k => k = w2.heap.size ∨ k = w1.heap.size + 1, ?_, ⟨w1.heap.size + 1, .slice none 0 0, DevS.made_ok n h1 h2, ?_, ?_, World.ownsRow_nil _ _ _ _, by omega, by simp [Value.ownBlock], by simp [Value.ownBlock], .inl rfl, .inr rfl, fun k hk => by simp [Value.ownBlock] at hk, ?_⟩, ?_⟩
  · rintro k (rfl | rfl) <;> omega
  · rw [heap_alloc_new]; simp [DevS.made]
  · rw [Below.heap_alloc _ _ _ (by omega)]
    rw [HR3.out]; simp [DevS.made, HN.out]
  · rintro k (rfl | rfl) <;> simp <;> omega
  · exact ((HB1.out.trans ((Below.refl _ _).alloc hz1 _)).trans (HB2.out.mono (by simp; omega))).alloc (by omega) _

theorem new_any (n : Int) (w : World) (h : 1 ≤ n ∧ n ≤ 4096) :
    Calls Try.prog 11 #[.int .i64 n] w fun e w' => ∃ p, e = .returned (.tuple #[.pointer (some ⟨p, 0, none⟩), .int .i64 0]) ∧ Fresh w w' p (DevS.made n.toNat) := by
  obtain ⟨m, rfl⟩ := Int.eq_ofNat_of_zero_le (show 0 ≤ n by omega)
  exact new_yes m w (by omega) (by omega)

section
variable {S : Nat → Prop} {w : World} {p q : Nat} {pv : Value} {D : DevS}

theorem Dev.cq' (d : Dev S w p q pv D) (b : Nat) (hb : b < D.disk.length) : w.cell? ⟨q, b, none⟩ = some (.string (D.disk.getD b ByteArray.empty)) := by
  rw [cell_at d.hq]; simp [hb]

set_option maxRecDepth 100000 in
set_option maxHeartbeats 1000000 in
theorem disk_any (d : Stands S w p D) :
    Calls Try.prog 19 #[.pointer (some ⟨p, 0, none⟩)] w fun e w' => ∃ v, e = .returned v ∧ w'.ownsRow w.heap.size 9 1 v D.disk.length (D.disk.map Value.string) ∧ Below w.heap.size w w' := by
  obtain ⟨q, pv, d⟩ := d
  have c0 := d.c0
  have hc := Try.slices_Clone_string q 0 D.disk.length D.disk.length D.disk w (Nat.le_refl _) (by have := d.ok.few; omega) (fun j hj => by rw [Nat.zero_add]; exact d.cq' j hj)
  rw [List.take_length] at hc
  have HC := Lib.hid hc
  clear hc d
  go_enter Try.func19, Try.ntmps19
  go_wp2_with fail
  refine HC.out.mono ?_
  rintro e w1 ⟨v, rfl, hown, _, hb⟩
  have HO := Lib.hid hown; clear hown
  have HB := Lib.hid hb; clear hb
  go_wp2
  go_ret
  exact ⟨v, rfl, HO.out, HB.out⟩

end

end Go.Proofs.Ytodfcbpimglhdaa

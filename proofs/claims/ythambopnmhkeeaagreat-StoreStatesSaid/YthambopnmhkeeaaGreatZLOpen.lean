/- Arguments that came in, read: for the statements of layer 4. -/
import Derived.Test.YthambopnmhkeeaaGreatZLaw
import Derived.Test.YthambopnmhkeeaaGreatZFBase
import Derived.SliceStrings
import Derived.Deep.Slices
import Derived.Test.YthambopnmhkeeaaGreatZSActs
import Derived.Test.YthambopnmhkeeaaGreatZSettle
import Derived.Test.YthambopnmhkeeaaGreatZNewD
import Derived.Test.YthambopnmhkeeaaGreatZWFix

namespace Go.Proofs.YthambopnmhkeeaaGreat
open Go.ChangeShapes Go.WideShapes Go.ChangeAt Go.RowKit Go.Deep

theorem wf_i64' {k : Int} (h : (Lit.int .i64 k).wf = true) : -9223372036854775808 <= k /\ k <= 9223372036854775807 := by
  simpa [Lit.wf, IntKind.min, IntKind.max, IntKind.signed, IntKind.bits] using h
end Go.Proofs.YthambopnmhkeeaaGreat
/- A slice of acts of layer 7 that came in, read cell by cell: it says some list of acts. -/
namespace Go.Proofs.YthambopnmhkeeaaGreat
open Go.ChangeShapes Go.WideShapes Go.ChangeAt Go.RowKit Go.Deep
set_option maxRecDepth 100000

theorem addr_plain {w : World} {a : Addr} {v : Value} (h : w.cell? a = some v) : ∃ b off, a = ⟨b, off, none⟩ := by
  obtain ⟨b, off, spot⟩ := a
  unfold World.cell? at h
  split at h
  . cases spot with
    | none => exact ⟨b, off, rfl⟩
    | some s => simp at h
  . cases h
theorem add_plain (b off j : Nat) : (⟨b, off, none⟩ : Addr).add j = ⟨b, off + j, none⟩ := by unfold Addr.add; split <;> simp_all

theorem cells_int : Tryz.prog.cellsOf 3 = 1 := by kernel_rfl
theorem cells_bools : Tryz.prog.cellsOf 33 = 1 := by kernel_rfl
theorem cells_u8 : Tryz.prog.cellsOf 5 = 1 := by kernel_rfl
theorem cells_bool : Tryz.prog.cellsOf 4 = 1 := by kernel_rfl
theorem cells_act : Tryz.prog.cellsOf 35 = 5 := by kernel_rfl

instance : Inhabited Act7 := ⟨⟨0, 0, 0, [], none, 0, 0⟩⟩

section
variable {H : Type} {enc : TypeId × Value -> H} {W : World} {held : Bool}

theorem open_keep {n : Nat} {v : Value} {x : DataW H × List MemPlace} (h : DataW.trod enc Tryz.prog W 0 (fun _ => true) held n 33 [v] = some x) :
    ∃ (kl : List Bool) (kao : Option Addr) (kcap : Nat), v = .slice kao kl.length kcap /\ kl.length <= 9223372036854775807 /\
      (kl = [] \/ ∃ g off, kao = some ⟨g, off, none⟩ /\ g < W.heap.size /\ ∀ i (h : i < kl.length), W.cell? ⟨g, off + i, none⟩ = some (.bool kl[i])) := by
  rcases open_slice1 Tryz.underlying33 cells_bool h with ⟨hcs, _⟩ | ⟨a, len, cap, m, n', V, D, Pl, hcs, _, hl, hm, hmm, _, hc⟩
  . simp only [List.cons.injEq, and_true] at hcs
    exact ⟨[], none, 0, by rw [hcs]; rfl, by simp, .inl rfl⟩
  . simp only [List.cons.injEq, and_true] at hcs
    simp only [if_true] at hmm
    obtain ⟨B, hB⟩ := choose_lt (n := m) (p := fun i (b : Bool) => V i = .bool b) (fun i hi => by
      obtain ⟨b, hb, _⟩ := DataW.trod_bool Tryz.underlying4 (hc i hi).2
      exact ⟨b, by simpa using hb⟩)
    refine ⟨(List.range len).map B, some a, cap, by rw [hcs]; simp, by unfold maxLen at hm; simp; omega, ?_⟩
    by_cases h0 : len = 0
    . left; rw [h0]; rfl
    . right
      have hc0 := (hc 0 (by omega)).1
      obtain ⟨b, off, hab⟩ := addr_plain hc0
      have ha : a = ⟨b, off, none⟩ := by simpa [Addr.add] using hab
      subst ha
      refine ⟨b, off, rfl, World.block_lt_of_cell? W _ hc0, fun i hi => ?_⟩
      have hi' : i < len := by simpa using hi
      have := (hc i (by omega)).1
      rw [add_plain] at this
      rw [this, hB i (by omega)]
      simp

theorem act_cells {n : Nat} {cs : List Value} {x : DataW H × List MemPlace} (hlen : cs.length = 5) (h : DataW.trod enc Tryz.prog W 0 (fun _ => true) held n 35 cs = some x) :
    ∃ A : Act7, A.Ok W /\ cs = A.cells := by
  obtain ⟨xs, n', _, _, _, _, hf⟩ := DataW.trod_struct Tryz.underlying35 h
  match cs, hlen with
  | [c0, c1, c2, c3, c4], _ =>
    have f0 : DataW.trod enc Tryz.prog W 0 (fun _ => true) held n' 3 ([c0].take (Tryz.prog.cellsOf 3)) = xs[0]? := by rw [cells_int]; have := hf 0 _ rfl; simp only [List.getElem_toArray, List.getElem_cons_zero] at this; rw [cells_int] at this; exact this
    have f1 : DataW.trod enc Tryz.prog W 0 (fun _ => true) held n' 3 [c1] = xs[1]? := by have := hf 1 _ rfl; simp only [List.getElem_toArray, List.getElem_cons_zero, List.getElem_cons_succ] at this; rw [cells_int] at this; exact this
    have f2 : DataW.trod enc Tryz.prog W 0 (fun _ => true) held n' 3 [c2] = xs[2]? := by have := hf 2 _ rfl; simp only [List.getElem_toArray, List.getElem_cons_zero, List.getElem_cons_succ] at this; rw [cells_int] at this; exact this
    have f3 : DataW.trod enc Tryz.prog W 0 (fun _ => true) held n' 33 [c3] = xs[3]? := by have := hf 3 _ rfl; simp only [List.getElem_toArray, List.getElem_cons_zero, List.getElem_cons_succ] at this; rw [cells_bools] at this; exact this
    have f4 : DataW.trod enc Tryz.prog W 0 (fun _ => true) held n' 5 [c4] = xs[4]? := by have := hf 4 _ rfl; simp only [List.getElem_toArray, List.getElem_cons_zero, List.getElem_cons_succ] at this; rw [cells_u8] at this; exact this
    rw [cells_int] at f0
    have some_of : ∀ {i : Nat} {o : Option (DataW H × List MemPlace)}, i < xs.length -> o = xs[i]? -> ∃ y, o = some y := fun {i o} hi e => ⟨xs[i], by rw [e, List.getElem?_eq_getElem hi]⟩
    have hxl : xs.length = 5 := by assumption
    obtain ⟨y0, e0⟩ := some_of (by omega) f0
    obtain ⟨y1, e1⟩ := some_of (by omega) f1
    obtain ⟨y2, e2⟩ := some_of (by omega) f2
    obtain ⟨y3, e3⟩ := some_of (by omega) f3
    obtain ⟨y4, e4⟩ := some_of (by omega) f4
    simp only [List.take_succ_cons, List.take_zero] at e0
    obtain ⟨op, h0, _, w0⟩ := DataW.trod_int Tryz.underlying3 e0
    obtain ⟨at_, h1, _, w1⟩ := DataW.trod_int Tryz.underlying3 e1
    obtain ⟨nn, h2, _, w2⟩ := DataW.trod_int Tryz.underlying3 e2
    obtain ⟨kl, kao, kcap, h3, hk, hkk⟩ := open_keep e3
    obtain ⟨b, h4, _, _⟩ := DataW.trod_int Tryz.underlying5 e4
    simp only [List.cons.injEq, and_true] at h0 h1 h2 h4
    subst h0 h1 h2 h3 h4
    exact ⟨⟨op, at_, nn, kl, kao, kcap, b⟩, ⟨wf_i64' w0, wf_i64' w1, wf_i64' w2, hk, hkk⟩, rfl⟩

theorem open_act {n : Nat} {a : Addr} {cs : List Value} {x : DataW H × List MemPlace} (hcs : W.cells? 0 a 5 = some cs) (h : DataW.trod enc Tryz.prog W 0 (fun _ => true) held n 35 cs = some x) :
    ∃ A : Act7, A.Ok W /\ ∀ j u, A.cells[j]? = some u -> W.cell? (a.add j) = some u := by
  obtain ⟨_, hlen, hat⟩ := World.cells?_some hcs
  obtain ⟨A, hA, rfl⟩ := act_cells hlen h
  refine ⟨A, hA, fun j u hu => ?_⟩
  have hj : j < 5 := by
    have := (List.getElem?_eq_some_iff.1 hu).1
    simpa [Act7.cells] using this
  rw [hat j hj]
  exact hu

theorem open_act_value {v : Value} {d : DataW H} {ps : List MemPlace} {r : Reach} {b0 : Nat} (hv : Value.okWide Tryz.prog W r b0 35 v) (h : DataW.Trod enc Tryz.prog W 0 (fun _ => true) held 35 v d ps) :
    ∃ A : Act7, v = A.agg /\ A.Ok W := by
  obtain ⟨cs, rfl, hsz⟩ := okWide_struct Tryz.underlying35 hv
  obtain ⟨fuel, hf⟩ := h
  obtain ⟨l⟩ := cs
  have hl : l.length = 5 := by simpa using hsz.trans cells_act
  obtain ⟨A, hA, e⟩ := act_cells hl (by simpa [Value.cells] using hf)
  exact ⟨A, by rw [e]; rfl, hA⟩

theorem open_acts {v : Value} {d : DataW H} {ps : List MemPlace} {r : Reach} {b0 : Nat} (hv : Value.okWide Tryz.prog W r b0 22 v) (h : DataW.Trod enc Tryz.prog W 0 (fun _ => true) held 22 v d ps) : ∃ L, Acts7 W v L := by
  obtain ⟨ao, len, cap, rfl⟩ := okWide_slice Tryz.underlying22 hv
  obtain ⟨fuel, hf⟩ := h
  have hf' : DataW.trod enc Tryz.prog W 0 (fun _ => true) held fuel 22 [.slice ao len cap] = some (d, ps) := by simpa [Value.cells] using hf
  rcases open_slice Tryz.underlying22 hf' with ⟨hcs, _⟩ | ⟨a, len', cap', m, n, D, Pl, hcs, _, hl, hm, hmm, _, hc⟩
  . simp only [List.cons.injEq, and_true] at hcs
    cases hcs
    refine ⟨[], ?_⟩
    show _ /\ _ /\ _
    exact ⟨(fun a ha => by cases ha), by simp, none, 0, rfl, (fun i hi => by cases hi)⟩
  . simp only [List.cons.injEq, and_true] at hcs
    cases hcs
    simp only [if_true] at hmm
    rw [cells_act] at hc
    obtain ⟨F, hF⟩ := choose_lt (α := Act7) (n := m) (p := fun i A => A.Ok W /\ ∀ j u, A.cells[j]? = some u -> W.cell? (a.add (i * 5 + j)) = some u) (fun i hi => by
      obtain ⟨cs, h1, h2⟩ := hc i hi
      obtain ⟨A, hA, hcell⟩ := open_act h1 h2
      exact ⟨A, hA, fun j u hu => by rw [<- add_add]; exact hcell j u hu⟩)
    refine ⟨(List.range len).map F, ?_, by unfold maxLen at hm; simp; omega, some a, cap, by simp, ?_⟩
    . intro A hA
      simp only [List.mem_map, List.mem_range] at hA
      obtain ⟨i, hi, rfl⟩ := hA
      exact (hF i (by omega)).1
    . intro i hi
      have hi' : i < len := by simpa using hi
      have h0 := (hF 0 (by omega)).2 0 _ rfl
      obtain ⟨g, o, hab⟩ := addr_plain h0
      have ha : a = ⟨g, o, none⟩ := by simpa [Addr.add] using hab
      subst ha
      rw [add_plain] at h0
      refine ⟨g, o, rfl, World.block_lt_of_cell? W _ h0, fun j u hu => ?_⟩
      have := (hF i (by omega)).2 j u (by simpa using hu)
      rw [add_plain, <- Nat.add_assoc] at this
      exact this
end
end Go.Proofs.YthambopnmhkeeaaGreat
/- The device's methods over one device of the call's own: what was there when the call began is never touched. -/
namespace Go.Proofs.YthambopnmhkeeaaGreat
open Go.RowKit

def At (w0 w : World) (p : Nat) (D : DevS) : Prop := ∃ S : Nat -> Prop, (∀ k, S k -> w0.heap.size <= k) /\ Stands S w p D /\ Below w0.heap.size w0 w

section
variable {w0 w w' : World} {p : Nat} {D : DevS}

theorem At.bel (h : At w0 w p D) : Below w0.heap.size w0 w := by obtain ⟨S, _, _, hb⟩ := h; exact hb
theorem At.ok (h : At w0 w p D) : D.Ok := by obtain ⟨S, _, hs, _⟩ := h; exact hs.ok
theorem At.below (h : At w0 w p D) (hb : Below w.heap.size w w') : At w0 w' p D := by
  obtain ⟨S, hS, hs, h0⟩ := h
  exact ⟨S, hS, hs.below hb, h0.trans (hb.mono h0.size)⟩
theorem At.of_fresh {w0 w w' : World} (hb : Below w0.heap.size w0 w) (h : Fresh w w' p D) : At w0 w' p D := by
  obtain ⟨S, hS, hs, hb'⟩ := h
  exact ⟨S, fun k hk => Nat.le_trans hb.size (hS k hk), hs, hb.trans (hb'.mono hb.size)⟩
theorem At.leaves {S : Nat -> Prop} {D' : DevS} (hS : ∀ k, S k -> w0.heap.size <= k) (h0 : Below w0.heap.size w0 w) (h : Leaves S w w' p D') : At w0 w' p D' := by
  obtain ⟨S', hS', hs, ho⟩ := h
  refine ⟨S', fun k hk => ?_, hs, h0.trans (ho.below h0.size (fun k _ hk => hS k hk))⟩
  rcases hS' k hk with h | h
  . exact hS k h
  . exact Nat.le_trans h0.size h

theorem At.new (n : Int) (h : 1 <= n /\ n <= 4096) (hb : Below w0.heap.size w0 w) :
    Calls Tryz.prog 24 #[.int .i64 n] w fun e w' => ∃ p, e = .returned (.tuple #[.pointer (some ⟨p, 0, none⟩), .int .i64 0]) /\ At w0 w' p (DevS.made n.toNat) :=
  (new_any n w h).mono fun _ _ ⟨p, he, hf⟩ => ⟨p, he, .of_fresh hb hf⟩
theorem At.read (i : Int) (hl : D.pend.length <= 1000000) (h : At w0 w p D) :
    Calls Tryz.prog 147 #[.pointer (some ⟨p, 0, none⟩), .int .i64 i] w fun e w' => e = .returned (.tuple #[.string (D.rd i).1, .int .i64 (D.rd i).2]) /\ At w0 w' p D := by
  have h' := h
  obtain ⟨S, hS, hs, h0⟩ := h
  exact (read_any i hl hs).mono fun _ _ ⟨he, hb⟩ => ⟨he, h'.below hb⟩
theorem At.write (i : Int) (s : ByteArray) (hl : D.pend.length <= 1000000) (h : At w0 w p D) :
    Calls Tryz.prog 28 #[.pointer (some ⟨p, 0, none⟩), .int .i64 i, .string s] w fun e w' => e = .returned (.int .i64 (D.wr i s).1) /\ At w0 w' p (D.wr i s).2 := by
  obtain ⟨S, hS, hs, h0⟩ := h
  exact (write_any i s hl hs).mono fun _ _ ⟨he, hv⟩ => ⟨he, .leaves hS h0 hv⟩
theorem At.flush (hl : D.pend.length <= 1000000) (h : At w0 w p D) :
    Calls Tryz.prog 170 #[.pointer (some ⟨p, 0, none⟩)] w fun e w' => e = .returned (.int .i64 D.fl.1) /\ At w0 w' p D.fl.2 := by
  obtain ⟨S, hS, hs, h0⟩ := h
  exact (flush_any hl hs).mono fun _ _ ⟨he, h1, h2⟩ => ⟨he, .leaves hS h0 (.mk h1 h2)⟩
theorem At.fuse (n : Int) (hn : n <= 9223372036854775807) (h : At w0 w p D) :
    Calls Tryz.prog 34 #[.pointer (some ⟨p, 0, none⟩), .int .i64 n] w fun e w' => e = .returned (.tuple #[]) /\ At w0 w' p (D.setFuse n) := by
  obtain ⟨S, hS, hs, h0⟩ := h
  exact (fuse_any n hn hs).mono fun _ _ ⟨he, h1, h2⟩ => ⟨he, .leaves hS h0 (.mk h1 h2)⟩
def BoolsOut (w0 w : World) (v : Value) (kl : List Bool) : Prop :=
  ∃ ao cap, v = .slice ao kl.length cap /\ (kl = [] \/ ∃ g off, ao = some ⟨g, off, none⟩ /\ g < w0.heap.size /\ ∀ i (h : i < kl.length), w.cell? ⟨g, off + i, none⟩ = some (.bool kl[i]))
theorem At.crash (kl : List Bool) (torn cut : Int) (v : Value) (hl : D.pend.length <= 1000000) (hkl : kl.length <= 9223372036854775807) (h : At w0 w p D) (hv : BoolsOut w0 w v kl) :
    Calls Tryz.prog 36 #[.pointer (some ⟨p, 0, none⟩), v, .int .i64 torn, .int .i64 cut] w fun e w' => e = .returned (.tuple #[]) /\ At w0 w' p (D.crash kl torn cut) := by
  obtain ⟨S, hS, hs, h0⟩ := h
  have hv' : Bools S w v kl := by
    obtain ⟨ao, cap, hv, h⟩ := hv
    refine ⟨ao, cap, hv, ?_⟩
    rcases h with h | ⟨g, off, ha, hg, hc⟩
    . exact .inl h
    . exact .inr ⟨g, off, ha, fun hs => by have := hS g hs; omega, hc⟩
  exact (crash_any kl torn cut v hl hkl hs hv').mono fun _ _ ⟨he, h1, h2⟩ => ⟨he, .leaves hS h0 (.mk h1 h2)⟩
theorem At.dead (h : At w0 w p D) :
    Calls Tryz.prog 16 #[.pointer (some ⟨p, 0, none⟩)] w fun e w' => e = .returned (.bool D.dead) /\ w = w' := by
  obtain ⟨S, hS, hs, h0⟩ := h; exact dead_any hs
theorem At.blocks (h : At w0 w p D) :
    Calls Tryz.prog 58 #[.pointer (some ⟨p, 0, none⟩)] w fun e w' => e = .returned (.int .i64 D.disk.length) /\ w = w' := by
  obtain ⟨S, hS, hs, h0⟩ := h; exact blocks_any hs
theorem At.disk (h : At w0 w p D) :
    Calls Tryz.prog 20 #[.pointer (some ⟨p, 0, none⟩)] w fun e w' => ∃ v, e = .returned v /\ w'.ownsRow w.heap.size 9 1 v D.disk.length (D.disk.map Value.string) /\ Below w.heap.size w w' /\ At w0 w' p D := by
  have h' := h
  obtain ⟨S, hS, hs, h0⟩ := h
  exact (disk_any hs).mono fun _ _ ⟨v, he, h1, h2⟩ => ⟨v, he, h1, h2, h'.below h2⟩
end
end Go.Proofs.YthambopnmhkeeaaGreat
/- Journals in plain numbers and lists: what a slot is, what Format, Open, Commit and Checkpoint do with a device; nothing of the program is walked here. -/
namespace Go.Proofs.YthambopnmhkeeaaGreat
open Go.RowKit
open Fr (bs fixL nmAt packL chkL chk unp hd)

structure JS where
  e : Nat
  s : Nat
  log : Nat
  p : Nat
  side : Nat
  next : Nat
  full : Nat

structure JS.Ok (J : JS) (n : Nat) : Prop where
  l0 : 50 <= J.log
  l1 : J.log + 3 <= n
  pl : J.p < J.log
  si : J.side <= 1
  fu : J.full <= J.log
  e64 : J.e < 18446744073709551616
  s64 : J.s < 18446744073709551616
  n64 : J.next < 18446744073709551616

def JS.pos (J : JS) (i : Nat) : Nat := 2 + (J.p + J.full + i) % J.log
def JS.home (J : JS) : Nat := 2 + J.log
def JS.left (J : JS) : Nat := J.log - J.full
def JS.grow (J : JS) (n : Nat) : JS := { J with next := (J.next + 1) % 18446744073709551616, full := J.full + n }

def halfL (e s log p : Nat) : List UInt8 := [67, 68, 88, 83] ++ (fixL (e % 4294967296) ++ (fixL (e / 4294967296) ++ (fixL (s % 4294967296) ++ (fixL (s / 4294967296) ++ (fixL log ++ (fixL p ++ List.replicate 100 0))))))
def slotB (e s log p : Nat) : ByteArray := bs (halfL e s log p ++ halfL e s log p)
theorem halfL_len (e s log p : Nat) : (halfL e s log p).length = 128 := by
  unfold halfL; simp only [List.length_append, Fr.fixL_len, List.length_replicate, List.length_cons, List.length_nil]
theorem slotB_size (e s log p : Nat) : (slotB e s log p).size = 256 := by
  unfold slotB; rw [Fr.bs_len, List.length_append, halfL_len]

def wideAt (l : List UInt8) (i : Nat) : Nat := nmAt l i + 4294967296 * nmAt l (i + 4)
def rdSlot (t : ByteArray) (n : Nat) : Option (Nat × Nat × Nat × Nat) :=
  let l := t.data.toList
  if 50 <= nmAt l 20 /\ nmAt l 20 + 3 <= n /\ nmAt l 24 < nmAt l 20 /\ t = slotB (wideAt l 4) (wideAt l 12) (nmAt l 20) (nmAt l 24) then some (wideAt l 4, wideAt l 12, nmAt l 20, nmAt l 24) else none

def DevS.wrs (D : DevS) : List (Int × ByteArray) -> Int × DevS
  | [] => (0, D)
  | x :: r => if (D.wr x.1 x.2).1 ≠ 0 then D.wr x.1 x.2 else DevS.wrs (D.wr x.1 x.2).2 r
def DevS.stl (D : DevS) (l : List (Int × ByteArray)) : Int × DevS := if (D.wrs l).1 ≠ 0 then D.wrs l else (D.wrs l).2.fl

theorem DevS.wrs_snoc (D : DevS) (l : List (Int × ByteArray)) (x : Int × ByteArray) (h : (D.wrs l).1 = 0) : D.wrs (l ++ [x]) = (D.wrs l).2.wr x.1 x.2 := by
  induction l generalizing D with
  | nil =>
    show DevS.wrs D [x] = _
    unfold DevS.wrs
    split
    . rfl
    . rename_i h2
      have e : (D.wr x.1 x.2).1 = 0 := by omega
      show (0, _) = D.wr x.1 x.2
      exact Prod.ext e.symm rfl
  | cons y r ih =>
    rw [List.cons_append]
    unfold DevS.wrs at h ⊢
    split at h
    . rename_i h2; exact absurd h h2
    . rename_i h2; rw [if_neg h2, if_neg h2]; exact ih _ h
theorem DevS.wrs_err (D : DevS) (l m : List (Int × ByteArray)) (h : (D.wrs l).1 ≠ 0) : D.wrs (l ++ m) = D.wrs l := by
  induction l generalizing D with
  | nil => exact absurd rfl h
  | cons y r ih =>
    rw [List.cons_append]
    unfold DevS.wrs at h ⊢
    split at h
    . rename_i h2; rw [if_pos h2, if_pos h2]
    . rename_i h2; rw [if_neg h2, if_neg h2]; exact ih _ h
theorem DevS.wrs_append (D : DevS) (l m : List (Int × ByteArray)) (h : (D.wrs l).1 = 0) : D.wrs (l ++ m) = (D.wrs l).2.wrs m := by
  induction l generalizing D with
  | nil => rfl
  | cons y r ih =>
    rw [List.cons_append]
    unfold DevS.wrs at h
    conv => lhs; unfold DevS.wrs
    conv => rhs; arg 1; unfold DevS.wrs
    split at h
    . rename_i h2; exact absurd h h2
    . rename_i h2; rw [if_neg h2, if_neg h2]; exact ih _ h
theorem DevS.wr_len (D : DevS) (i : Int) (s : ByteArray) : (D.wr i s).2.pend.length <= D.pend.length + 1 := by
  unfold DevS.wr
  split
  . exact Nat.le_succ _
  . split
    . exact Nat.le_succ _
    . split
      . rw [DevS.tk_pend]; exact Nat.le_succ _
      . simp
theorem DevS.wrs_len (D : DevS) (l : List (Int × ByteArray)) : (D.wrs l).2.pend.length <= D.pend.length + l.length := by
  induction l generalizing D with
  | nil => exact Nat.le_refl _
  | cons x r ih =>
    have h := D.wr_len x.1 x.2
    unfold DevS.wrs
    split
    . rw [List.length_cons]; omega
    . have := ih (D.wr x.1 x.2).2; rw [List.length_cons]; omega
theorem DevS.fl_len (D : DevS) : D.fl.2.pend.length <= D.pend.length := by
  unfold DevS.fl
  split
  . exact Nat.le_refl _
  . split
    . rw [DevS.tk_pend]; exact Nat.le_refl _
    . exact Nat.zero_le _
theorem DevS.stl_len (D : DevS) (l : List (Int × ByteArray)) : (D.stl l).2.pend.length <= D.pend.length + l.length := by
  have h := D.wrs_len l
  have h2 := (D.wrs l).2.fl_len
  unfold DevS.stl
  split <;> omega
theorem DevS.wr_disk (D : DevS) (i : Int) (s : ByteArray) : (D.wr i s).2.disk = D.disk := by
  unfold DevS.wr
  split
  . rfl
  . split
    . rfl
    . split
      . exact DevS.tk_disk D
      . exact DevS.tk_disk D
theorem DevS.wrs_disk (D : DevS) (l : List (Int × ByteArray)) : (D.wrs l).2.disk = D.disk := by
  induction l generalizing D with
  | nil => rfl
  | cons x r ih =>
    unfold DevS.wrs
    split
    . exact D.wr_disk _ _
    . rw [ih, D.wr_disk]
theorem DevS.fl_disk (D : DevS) : D.fl.2.disk.length = D.disk.length := by
  unfold DevS.fl
  split
  . rfl
  . split
    . rw [DevS.tk_disk]
    . simp [laidTo_length]
theorem DevS.stl_disk (D : DevS) (l : List (Int × ByteArray)) : (D.stl l).2.disk.length = D.disk.length := by
  unfold DevS.stl
  split
  . rw [D.wrs_disk]
  . rw [DevS.fl_disk, D.wrs_disk]
theorem DevS.tk_dead (D : DevS) (h : D.tk.1 = true) : D.tk.2.dead = D.dead := by
  unfold DevS.tk at *
  split
  . rfl
  . split
    . rename_i h1 h2; rw [if_neg h1, if_pos h2] at h; cases h
    . rfl
theorem DevS.wr_live (D : DevS) (i : Int) (s : ByteArray) (h : (D.wr i s).1 = 0) : (D.wr i s).2.dead = false := by
  unfold DevS.wr at *
  split
  . rename_i h1; rw [if_pos h1] at h; exact absurd h h1
  . rename_i h1
    rw [if_neg h1] at h
    split
    . rename_i h2; rw [if_pos h2] at h; cases h
    . rename_i h2
      rw [if_neg h2] at h
      split
      . rename_i h3; rw [if_pos h3] at h; cases h
      . rename_i h3
        show D.tk.2.dead = false
        rw [D.tk_dead (by simpa using h3)]
        have h0 : D.ck i = 0 := by simpa using h1
        unfold DevS.ck at h0
        cases hd : D.dead with
        | false => rfl
        | true => rw [hd] at h0; simp at h0
theorem DevS.wrs_live (D : DevS) (l : List (Int × ByteArray)) (hd : D.dead = false) (h : (D.wrs l).1 = 0) : (D.wrs l).2.dead = false := by
  induction l generalizing D with
  | nil => exact hd
  | cons x r ih =>
    unfold DevS.wrs at h ⊢
    split
    . rename_i h1; rw [if_pos h1] at h; exact absurd h h1
    . rename_i h1; rw [if_neg h1] at h; exact ih _ (D.wr_live _ _ (by simpa using h1)) h
def JS.chk1 (J : JS) (n : Nat) (x : Int × ByteArray) : Nat := if x.1 < J.home \/ (n : Int) <= x.1 then 2 else if x.2.size ≠ 256 then 3 else 0
def JS.chkL (J : JS) (n : Nat) : List (Int × ByteArray) -> Nat
  | [] => 0
  | x :: l => if J.chk1 n x = 0 then JS.chkL J n l else J.chk1 n x
def JS.chk (J : JS) (n : Nat) (l : List (Int × ByteArray)) : Nat := if l.length = 0 \/ 48 < l.length then 6 else J.chkL n l
def JS.WrOk (J : JS) (n : Nat) (x : Int × ByteArray) : Prop := J.home <= x.1 /\ x.1 < n /\ x.2.size = 256
theorem JS.chk1_ok (J : JS) (n : Nat) (x : Int × ByteArray) : J.chk1 n x = 0 ↔ J.WrOk n x := by
  unfold JS.chk1 JS.WrOk
  by_cases h : x.1 < J.home \/ (n : Int) <= x.1
  . rw [if_pos h]; constructor
    . intro h2; omega
    . intro h2; omega
  . rw [if_neg h]
    by_cases h2 : x.2.size ≠ 256
    . rw [if_pos h2]; constructor
      . intro h2; omega
      . intro h3; exact absurd h3.2.2 h2
    . rw [if_neg h2]; constructor
      . intro _; exact ⟨by omega, by omega, by omega⟩
      . intro _; rfl
theorem JS.chkL_ok (J : JS) (n : Nat) (l : List (Int × ByteArray)) : J.chkL n l = 0 ↔ ∀ x ∈ l, J.WrOk n x := by
  induction l with
  | nil => simp [JS.chkL]
  | cons x l ih =>
    unfold JS.chkL
    by_cases h : J.chk1 n x = 0
    . rw [if_pos h, ih]
      constructor
      . intro h2 y hy
        rcases List.mem_cons.1 hy with rfl | hy
        . exact (J.chk1_ok n _).1 h
        . exact h2 y hy
      . intro h2 y hy; exact h2 y (List.mem_cons_of_mem _ hy)
    . rw [if_neg h]
      constructor
      . intro h2; exact absurd h2 h
      . intro h2; exact absurd ((J.chk1_ok n x).2 (h2 x (List.mem_cons_self ..))) h
theorem JS.chkL_drop (J : JS) (n : Nat) (l : List (Int × ByteArray)) (k : Nat) (h : k < l.length) (hk : J.chk1 n l[k] = 0) : J.chkL n (l.drop k) = J.chkL n (l.drop (k + 1)) := by
  rw [List.drop_eq_getElem_cons h]; show (if J.chk1 n l[k] = 0 then _ else _) = _; rw [if_pos hk]
theorem JS.chkL_at (J : JS) (n : Nat) (l : List (Int × ByteArray)) (k : Nat) (h : k < l.length) (hk : J.chk1 n l[k] ≠ 0) : J.chkL n (l.drop k) = J.chk1 n l[k] := by
  rw [List.drop_eq_getElem_cons h]; show (if J.chk1 n l[k] = 0 then _ else _) = _; rw [if_neg hk]
theorem JS.chk_ok (J : JS) (n : Nat) (l : List (Int × ByteArray)) : J.chk n l = 0 ↔ 1 <= l.length /\ l.length <= 48 /\ ∀ x ∈ l, J.WrOk n x := by
  unfold JS.chk
  by_cases h : l.length = 0 \/ 48 < l.length
  . rw [if_pos h]; constructor
    . intro h2; omega
    . intro h2; omega
  . rw [if_neg h, J.chkL_ok]; constructor
    . intro h2; exact ⟨by omega, by omega, h2⟩
    . intro h2; exact h2.2.2

def JS.next' (J : JS) : JS := ⟨(J.e + 1) % 18446744073709551616, J.next, J.log, J.pos 0 - 2, 1 - J.side, J.next, 0⟩
def JS.ckp (J : JS) (D : DevS) : Int × DevS × JS :=
  let a := D.stl [(((J.pos 0 : Nat) : Int), noughts)]
  if a.1 ≠ 0 then (a.1, a.2, J) else
  let b := a.2.stl [(((1 - J.side : Nat) : Int), slotB ((J.e + 1) % 18446744073709551616) J.next J.log (J.pos 0 - 2))]
  if b.1 ≠ 0 then (b.1, b.2, J) else (0, b.2, J.next')
def JS.dataW (J : JS) (ds : List ByteArray) : List (Int × ByteArray) := ((List.range ds.length).map fun i => (((J.pos (i + 1) : Nat) : Int), ds.getD i ByteArray.empty)) ++ [(((J.pos (ds.length + 1) : Nat) : Int), noughts)]
def JS.addF (J : JS) (D : DevS) (top : ByteArray) (ds : List ByteArray) : Int × DevS × JS :=
  let a := D.stl (J.dataW ds)
  if a.1 ≠ 0 then (a.1, a.2, J) else
  let b := a.2.stl [(((J.pos 0 : Nat) : Int), top)]
  if b.1 ≠ 0 then (b.1, b.2, J) else (0, b.2, J.grow (ds.length + 1))
def JS.commit (J : JS) (D : DevS) (l : List (Int × ByteArray)) : Int × DevS × JS :=
  if J.chk D.disk.length l ≠ 0 then (J.chk D.disk.length l, D, J) else
  let c := if J.left < l.length + 2 then J.ckp D else (0, D, J)
  if c.1 ≠ 0 then c else
  let a := c.2.2.addF c.2.1 (bs (Fr.topL J.next l)) (l.map (·.2))
  if a.1 ≠ 0 then a else ((a.2.1.wrs l).1, (a.2.1.wrs l).2, a.2.2)
def JS.frameAt (J : JS) (D : DevS) : List ByteArray := D.rdB (J.pos 0) :: (List.range (nmAt (D.rdB (J.pos 0)).data.toList 12)).map fun i => D.rdB (J.pos (i + 1))
def JS.frameOf (J : JS) (D : DevS) : Option (List (Int × ByteArray)) :=
  if Fr.headB (D.rdB (J.pos 0)).data.toList = true /\ nmAt (D.rdB (J.pos 0)).data.toList 12 + 1 <= J.left /\ (unp (J.frameAt D)).2.2 = 0 /\ (unp (J.frameAt D)).1 = J.next /\ J.chk D.disk.length (unp (J.frameAt D)).2.1 = 0
  then some (unp (J.frameAt D)).2.1 else none
def JS.redoN (J : JS) (D : DevS) : Nat -> Int × DevS × JS
  | 0 => (0, D, J)
  | m + 1 => match J.frameOf D with
    | none => (0, D, J)
    | some ws => if (D.wrs ws).1 ≠ 0 then ((D.wrs ws).1, (D.wrs ws).2, J.grow (ws.length + 1)) else JS.redoN (J.grow (ws.length + 1)) (D.wrs ws).2 m
def JS.redo (J : JS) (D : DevS) : Int × DevS × JS := J.redoN D (J.log + 1)
def slotJ (x : Nat × Nat × Nat × Nat) (i : Nat) : JS := ⟨x.1, x.2.1, x.2.2.1, x.2.2.2, i, x.2.1, 0⟩
def DevS.slotAt (D : DevS) (i : Nat) : Option (Nat × Nat × Nat × Nat) := if i < D.disk.length then rdSlot (D.rdB i) D.disk.length else none
def DevS.find (D : DevS) : Option JS :=
  match D.slotAt 0, D.slotAt 1 with
  | none, none => none
  | some x, none => some (slotJ x 0)
  | none, some y => some (slotJ y 1)
  | some x, some y => if x.1 < y.1 then some (slotJ y 1) else some (slotJ x 0)
def DevS.opn (D : DevS) : Int × DevS × Option JS :=
  if D.dead then (4, D, none) else
  match D.find with
  | none => (10, D, none)
  | some J =>
    let r := J.redo D
    if r.1 ≠ 0 then (r.1, r.2.1, none) else
    let c := r.2.2.ckp r.2.1
    if c.1 ≠ 0 then (c.1, c.2.1, none) else (0, c.2.1, some c.2.2)
def fmtL (log : Nat) : List (Int × ByteArray) := ((List.range (log + 1)).map fun i => (((i + 1 : Nat) : Int), noughts)) ++ [(0, slotB 1 1 log 0)]
def DevS.fmt (D : DevS) (log : Int) : Int × DevS := if log < 50 \/ (D.disk.length : Int) - 3 < log then (2, D) else D.stl (fmtL log.toNat)
end Go.Proofs.YthambopnmhkeeaaGreat

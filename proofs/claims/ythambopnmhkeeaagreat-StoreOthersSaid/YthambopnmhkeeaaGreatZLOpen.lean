/- Arguments that came in, read: for the statements of layer 4. -/
import Derived.Test.YthambopnmhkeeaaGreatZLaw
import Derived.Test.YthambopnmhkeeaaGreatZFBase
import Derived.SliceStrings
import Derived.Deep.Slices
import Derived.Test.YthambopnmhkeeaaGreatZCalls2

namespace Go.Proofs.YthambopnmhkeeaaGreat
open Go.ChangeShapes Go.WideShapes Go.ChangeAt Go.RowKit Go.Deep
theorem wf_i64' {k : Int} (h : (Lit.int .i64 k).wf = true) : -9223372036854775808 <= k /\ k <= 9223372036854775807 := by
 simpa [Lit.wf, IntKind.min, IntKind.max, IntKind.signed, IntKind.bits] using h
end Go.Proofs.YthambopnmhkeeaaGreat
/- A slice of acts of layer 7 that came in, read cell by cell: it says some list of acts. -/
namespace Go.Proofs.YthambopnmhkeeaaGreat
open Go.ChangeShapes Go.WideShapes Go.ChangeAt Go.RowKit Go.Deep
set_option maxRecDepth 100000
theorem addr_plain {w : World} {a : Addr} {v : Value} (h : w.cell? a = some v) : ∃ b off, a = ⟨b, off, none⟩ := by
 obtain ⟨b, off, spot⟩ := a
 unfold World.cell? at h
 split at h
 ·cases spot with
  | none => exact ⟨b, off, rfl⟩
  | some s => simp at h
 ·cases h
theorem add_plain (b off j : Nat) : (⟨b, off, none⟩ : Addr).add j = ⟨b, off + j, none⟩ := by unfold Addr.add; split <;> simp_all
theorem cells_int : Tryz.prog.cellsOf 3 = 1 := by kernel_rfl
theorem cells_bools : Tryz.prog.cellsOf 33 = 1 := by kernel_rfl
theorem cells_u8 : Tryz.prog.cellsOf 5 = 1 := by kernel_rfl
theorem cells_bool : Tryz.prog.cellsOf 4 = 1 := by kernel_rfl
theorem cells_act : Tryz.prog.cellsOf 35 = 5 := by kernel_rfl
instance : Inhabited Act7 := ⟨⟨0, 0, 0, [], none, 0, 0⟩⟩
section
variable {H : Type} {enc : TypeId × Value -> H} {W : World} {held : Bool}
theorem open_keep {n : Nat} {v : Value} {x : DataW H × List MemPlace} (h : DataW.trod enc Tryz.prog W 0 (fun _ => true) held n 33 [v] = some x) :
  ∃ (kl : List Bool) (kao : Option Addr) (kcap : Nat), v = .slice kao kl.length kcap /\ kl.length <= 9223372036854775807 /\
   (kl = [] \/ ∃ g off, kao = some ⟨g, off, none⟩ /\ g < W.heap.size /\ ∀ i (h : i < kl.length), W.cell? ⟨g, off + i, none⟩ = some (.bool kl[i])) := by
 rcases open_slice1 Tryz.underlying33 cells_bool h with ⟨hcs, _⟩ | ⟨a, len, cap, m, n', V, D, Pl, hcs, _, hl, hm, hmm, _, hc⟩
 ·simp only [List.cons.injEq, and_true] at hcs
  exact ⟨[], none, 0, by rw [hcs]; rfl, by simp, .inl rfl⟩
 ·simp only [List.cons.injEq, and_true] at hcs
  simp only [if_true] at hmm
  obtain ⟨B, hB⟩ := choose_lt (n := m) (p := fun i (b : Bool) => V i = .bool b) (fun i hi => by
   obtain ⟨b, hb, _⟩ := DataW.trod_bool Tryz.underlying4 (hc i hi).2
   exact ⟨b, by simpa using hb⟩)
  refine ⟨(List.range len).map B, some a, cap, by rw [hcs]; simp, by unfold maxLen at hm; simp; omega, ?_⟩
  by_cases h0 : len = 0
  ·left; rw [h0]; rfl
  ·right
   have hc0 := (hc 0 (by omega)).1
   obtain ⟨b, off, hab⟩ := addr_plain hc0
   have ha : a = ⟨b, off, none⟩ := by simpa [Addr.add] using hab
   subst ha
   refine ⟨b, off, rfl, World.block_lt_of_cell? W _ hc0, fun i hi => ?_⟩
   have hi' : i < len := by simpa using hi
   have := (hc i (by omega)).1
   rw [add_plain] at this
   rw [this, hB i (by omega)]
   simp
theorem act_cells {n : Nat} {cs : List Value} {x : DataW H × List MemPlace} (hlen : cs.length = 5) (h : DataW.trod enc Tryz.prog W 0 (fun _ => true) held n 35 cs = some x) :
  ∃ A : Act7, A.Ok W /\ cs = A.cells := by
 obtain ⟨xs, n', _, _, _, _, hf⟩ := DataW.trod_struct Tryz.underlying35 h
 match cs, hlen with
 | [c0, c1, c2, c3, c4], _ =>
  have f0 : DataW.trod enc Tryz.prog W 0 (fun _ => true) held n' 3 ([c0].take (Tryz.prog.cellsOf 3)) = xs[0]? := by rw [cells_int]; have := hf 0 _ rfl; simp only [List.getElem_toArray, List.getElem_cons_zero] at this; rw [cells_int] at this; exact this
  have f1 : DataW.trod enc Tryz.prog W 0 (fun _ => true) held n' 3 [c1] = xs[1]? := by have := hf 1 _ rfl; simp only [List.getElem_toArray, List.getElem_cons_zero, List.getElem_cons_succ] at this; rw [cells_int] at this; exact this
  have f2 : DataW.trod enc Tryz.prog W 0 (fun _ => true) held n' 3 [c2] = xs[2]? := by have := hf 2 _ rfl; simp only [List.getElem_toArray, List.getElem_cons_zero, List.getElem_cons_succ] at this; rw [cells_int] at this; exact this
  have f3 : DataW.trod enc Tryz.prog W 0 (fun _ => true) held n' 33 [c3] = xs[3]? := by have := hf 3 _ rfl; simp only [List.getElem_toArray, List.getElem_cons_zero, List.getElem_cons_succ] at this; rw [cells_bools] at this; exact this
  have f4 : DataW.trod enc Tryz.prog W 0 (fun _ => true) held n' 5 [c4] = xs[4]? := by have := hf 4 _ rfl; simp only [List.getElem_toArray, List.getElem_cons_zero, List.getElem_cons_succ] at this; rw [cells_u8] at this; exact this
  rw [cells_int] at f0
  have some_of : ∀ {i : Nat} {o : Option (DataW H × List MemPlace)}, i < xs.length -> o = xs[i]? -> ∃ y, o = some y := fun {i o} hi e => ⟨xs[i], by rw [e, List.getElem?_eq_getElem hi]⟩
  have hxl : xs.length = 5 := by assumption
  obtain ⟨y0, e0⟩ := some_of (by omega) f0
  obtain ⟨y1, e1⟩ := some_of (by omega) f1
  obtain ⟨y2, e2⟩ := some_of (by omega) f2
  obtain ⟨y3, e3⟩ := some_of (by omega) f3
  obtain ⟨y4, e4⟩ := some_of (by omega) f4
  simp only [List.take_succ_cons, List.take_zero] at e0
  obtain ⟨op, h0, _, w0⟩ := DataW.trod_int Tryz.underlying3 e0
  obtain ⟨at_, h1, _, w1⟩ := DataW.trod_int Tryz.underlying3 e1
  obtain ⟨nn, h2, _, w2⟩ := DataW.trod_int Tryz.underlying3 e2
  obtain ⟨kl, kao, kcap, h3, hk, hkk⟩ := open_keep e3
  obtain ⟨b, h4, _, _⟩ := DataW.trod_int Tryz.underlying5 e4
  simp only [List.cons.injEq, and_true] at h0 h1 h2 h4
  subst h0 h1 h2 h3 h4
  exact ⟨⟨op, at_, nn, kl, kao, kcap, b⟩, ⟨wf_i64' w0, wf_i64' w1, wf_i64' w2, hk, hkk⟩, rfl⟩
theorem open_act {n : Nat} {a : Addr} {cs : List Value} {x : DataW H × List MemPlace} (hcs : W.cells? 0 a 5 = some cs) (h : DataW.trod enc Tryz.prog W 0 (fun _ => true) held n 35 cs = some x) :
  ∃ A : Act7, A.Ok W /\ ∀ j u, A.cells[j]? = some u -> W.cell? (a.add j) = some u := by
 obtain ⟨_, hlen, hat⟩ := World.cells?_some hcs
 obtain ⟨A, hA, rfl⟩ := act_cells hlen h
 refine ⟨A, hA, fun j u hu => ?_⟩
 have hj : j < 5 := by
  have := (List.getElem?_eq_some_iff.1 hu).1
  simpa [Act7.cells] using this
 rw [hat j hj]
 exact hu
theorem open_act_value {v : Value} {d : DataW H} {ps : List MemPlace} {r : Reach} {b0 : Nat} (hv : Value.okWide Tryz.prog W r b0 35 v) (h : DataW.Trod enc Tryz.prog W 0 (fun _ => true) held 35 v d ps) :
  ∃ A : Act7, v = A.agg /\ A.Ok W := by
 obtain ⟨cs, rfl, hsz⟩ := okWide_struct Tryz.underlying35 hv
 obtain ⟨fuel, hf⟩ := h
 obtain ⟨l⟩ := cs
 have hl : l.length = 5 := by simpa using hsz.trans cells_act
 obtain ⟨A, hA, e⟩ := act_cells hl (by simpa [Value.cells] using hf)
 exact ⟨A, by rw [e]; rfl, hA⟩
theorem open_acts {v : Value} {d : DataW H} {ps : List MemPlace} {r : Reach} {b0 : Nat} (hv : Value.okWide Tryz.prog W r b0 22 v) (h : DataW.Trod enc Tryz.prog W 0 (fun _ => true) held 22 v d ps) : ∃ L, Acts7 W v L := by
 obtain ⟨ao, len, cap, rfl⟩ := okWide_slice Tryz.underlying22 hv
 obtain ⟨fuel, hf⟩ := h
 have hf' : DataW.trod enc Tryz.prog W 0 (fun _ => true) held fuel 22 [.slice ao len cap] = some (d, ps) := by simpa [Value.cells] using hf
 rcases open_slice Tryz.underlying22 hf' with ⟨hcs, _⟩ | ⟨a, len', cap', m, n, D, Pl, hcs, _, hl, hm, hmm, _, hc⟩
 ·simp only [List.cons.injEq, and_true] at hcs
  cases hcs
  refine ⟨[], ?_⟩
  show _ /\ _ /\ _
  exact ⟨(fun a ha => by cases ha), by simp, none, 0, rfl, (fun i hi => by cases hi)⟩
 ·simp only [List.cons.injEq, and_true] at hcs
  cases hcs
  simp only [if_true] at hmm
  rw [cells_act] at hc
  obtain ⟨F, hF⟩ := choose_lt (α := Act7) (n := m) (p := fun i A => A.Ok W /\ ∀ j u, A.cells[j]? = some u -> W.cell? (a.add (i * 5 + j)) = some u) (fun i hi => by
   obtain ⟨cs, h1, h2⟩ := hc i hi
   obtain ⟨A, hA, hcell⟩ := open_act h1 h2
   exact ⟨A, hA, fun j u hu => by rw [<- add_add]; exact hcell j u hu⟩)
  refine ⟨(List.range len).map F, ?_, by unfold maxLen at hm; simp; omega, some a, cap, by simp, ?_⟩
  ·intro A hA
   simp only [List.mem_map, List.mem_range] at hA
   obtain ⟨i, hi, rfl⟩ := hA
   exact (hF i (by omega)).1
  ·intro i hi
   have hi' : i < len := by simpa using hi
   have h0 := (hF 0 (by omega)).2 0 _ rfl
   obtain ⟨g, o, hab⟩ := addr_plain h0
   have ha : a = ⟨g, o, none⟩ := by simpa [Addr.add] using hab
   subst ha
   rw [add_plain] at h0
   refine ⟨g, o, rfl, World.block_lt_of_cell? W _ h0, fun j u hu => ?_⟩
   have := (hF i (by omega)).2 j u (by simpa using hu)
   rw [add_plain, <- Nat.add_assoc] at this
   exact this
end
end Go.Proofs.YthambopnmhkeeaaGreat

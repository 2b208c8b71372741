/- A slice of acts of layer 4 that came in, read cell by cell: it says some list of acts. A slice of numbers, too. -/
import Derived.Test.YtodfcbpimglhdaaZLWrites
import Derived.Test.YtodfcbpimglhdaaZLOpen
import Derived.Test.YtodfcbpimglhdaaZSettle
import Derived.Test.YtodfcbpimglhdaaZNewD
import Derived.Test.YtodfcbpimglhdaaZWFix
import Derived.Test.YtodfcbpimglhdaaZFBase
import Derived.Deep.RegionHeld3
import Derived.Deep.RegionWith
import Derived.BigQuiet
import Derived.Deep.QuietTactic

namespace Go.Proofs.Ytodfcbpimglhdaa
open Go.ChangeShapes Go.WideShapes Go.ChangeAt Go.RowKit Go.Deep
set_option maxRecDepth 100000

theorem addr_plain {w : World} {a : Addr} {v : Value} (h : w.cell? a = some v) : ∃ b off, a = ⟨b, off, none⟩ := by
  obtain ⟨b, off, spot⟩ := a
  unfold World.cell? at h
  split at h
  · cases spot with
    | none => exact ⟨b, off, rfl⟩
    | some s => simp at h
  · cases h
theorem add_plain (b off j : Nat) : (⟨b, off, none⟩ : Addr).add j = ⟨b, off + j, none⟩ := by unfold Addr.add; split <;> simp_all

theorem cells_int : Try.prog.cellsOf 3 = 1 := by kernel_rfl
theorem cells_ints : Try.prog.cellsOf 57 = 1 := by kernel_rfl
theorem cells_bools : Try.prog.cellsOf 56 = 1 := by kernel_rfl
theorem cells_str : Try.prog.cellsOf 9 = 1 := by kernel_rfl
theorem cells_bool : Try.prog.cellsOf 4 = 1 := by kernel_rfl
theorem cells_act : Try.prog.cellsOf 59 = 6 := by kernel_rfl

instance : Inhabited Act4 := ⟨⟨0, 0, 0, [], none, 0, [], none, 0, ByteArray.empty⟩⟩

section
variable {H : Type} {enc : TypeId × Value → H} {W : World} {held : Bool}

theorem open_keep {n : Nat} {v : Value} {x : DataW H × List MemPlace} (h : DataW.trod enc Try.prog W 0 (fun _ => true) held n 56 [v] = some x) :
    ∃ (kl : List Bool) (kao : Option Addr) (kcap : Nat), v = .slice kao kl.length kcap ∧ kl.length ≤ 9223372036854775807 ∧
      (kl = [] ∨ ∃ g off, kao = some ⟨g, off, none⟩ ∧ g < W.heap.size ∧ ∀ i (h : i < kl.length), W.cell? ⟨g, off + i, none⟩ = some (.bool kl[i])) := by
  rcases open_slice1 Try.underlying56 cells_bool h with ⟨hcs, _⟩ | ⟨a, len, cap, m, n', V, D, Pl, hcs, _, hl, hm, hmm, _, hc⟩
  · simp only [List.cons.injEq, and_true] at hcs
    exact ⟨[], none, 0, by rw [hcs]; rfl, by simp, .inl rfl⟩
  · simp only [List.cons.injEq, and_true] at hcs
    simp only [if_true] at hmm
    obtain ⟨B, hB⟩ := choose_lt (n := m) (p := fun i (b : Bool) => V i = .bool b) (fun i hi => by
      obtain ⟨b, hb, _⟩ := DataW.trod_bool Try.underlying4 (hc i hi).2
      exact ⟨b, by simpa using hb⟩)
    refine ⟨(List.range len).map B, some a, cap, by rw [hcs]; simp, by unfold maxLen at hm; simp; omega, ?_⟩
    by_cases h0 : len = 0
    · left; rw [h0]; rfl
    · right
      have hc0 := (hc 0 (by omega)).1
      obtain ⟨b, off, hab⟩ := addr_plain hc0
      have ha : a = ⟨b, off, none⟩ := by simpa [Addr.add] using hab
      subst ha
      refine ⟨b, off, rfl, World.block_lt_of_cell? W _ hc0, fun i hi => ?_⟩
      have hi' : i < len := by simpa using hi
      have := (hc i (by omega)).1
      rw [add_plain] at this
      rw [this, hB i (by omega)]
      simp

theorem open_nums {n : Nat} {v : Value} {x : DataW H × List MemPlace} (h : DataW.trod enc Try.prog W 0 (fun _ => true) held n 57 [v] = some x) :
    ∃ (kl : List Int) (kao : Option Addr) (kcap : Nat), v = .slice kao kl.length kcap ∧ kl.length ≤ 9223372036854775807 ∧ (∀ y ∈ kl, -9223372036854775808 ≤ y ∧ y ≤ 9223372036854775807) ∧
      (kl = [] ∨ ∃ g off, kao = some ⟨g, off, none⟩ ∧ g < W.heap.size ∧ ∀ i (h : i < kl.length), W.cell? ⟨g, off + i, none⟩ = some (.int .i64 kl[i])) := by
  rcases open_slice1 Try.underlying57 cells_int h with ⟨hcs, _⟩ | ⟨a, len, cap, m, n', V, D, Pl, hcs, _, hl, hm, hmm, _, hc⟩
  · simp only [List.cons.injEq, and_true] at hcs
    exact ⟨[], none, 0, by rw [hcs]; rfl, by simp, (fun y hy => by cases hy), .inl rfl⟩
  · simp only [List.cons.injEq, and_true] at hcs
    simp only [if_true] at hmm
    obtain ⟨B, hB⟩ := choose_lt (n := m) (p := fun i (b : Int) => V i = .int .i64 b ∧ (-9223372036854775808 ≤ b ∧ b ≤ 9223372036854775807)) (fun i hi => by
      obtain ⟨b, hb, _, hw⟩ := DataW.trod_int Try.underlying3 (hc i hi).2
      exact ⟨b, by simpa using hb, wf_i64' hw⟩)
    refine ⟨(List.range len).map B, some a, cap, by rw [hcs]; simp, by unfold maxLen at hm; simp; omega, fun y hy => ?_, ?_⟩
    · simp only [List.mem_map, List.mem_range] at hy
      obtain ⟨i, hi, rfl⟩ := hy
      exact (hB i (by omega)).2
    by_cases h0 : len = 0
    · left; rw [h0]; rfl
    · right
      have hc0 := (hc 0 (by omega)).1
      obtain ⟨b, off, hab⟩ := addr_plain hc0
      have ha : a = ⟨b, off, none⟩ := by simpa [Addr.add] using hab
      subst ha
      refine ⟨b, off, rfl, World.block_lt_of_cell? W _ hc0, fun i hi => ?_⟩
      have hi' : i < len := by simpa using hi
      have := (hc i (by omega)).1
      rw [add_plain] at this
      rw [this, (hB i (by omega)).1]
      simp

/-- Six cells that read as an act are an act's. -/
theorem act_cells {n : Nat} {cs : List Value} {x : DataW H × List MemPlace} (hlen : cs.length = 6) (h : DataW.trod enc Try.prog W 0 (fun _ => true) held n 59 cs = some x) :
    ∃ A : Act4, A.Ok W ∧ cs = A.cells := by
  obtain ⟨xs, n', _, _, _, _, hf⟩ := DataW.trod_struct Try.underlying59 h
  match cs, hlen with
  | [c0, c1, c2, c3, c4, c5], _ =>
    have f0 : DataW.trod enc Try.prog W 0 (fun _ => true) held n' 3 ([c0].take (Try.prog.cellsOf 3)) = xs[0]? := by rw [cells_int]; have := hf 0 _ rfl; simp only [List.getElem_toArray, List.getElem_cons_zero] at this; rw [cells_int] at this; exact this
    have f1 : DataW.trod enc Try.prog W 0 (fun _ => true) held n' 3 [c1] = xs[1]? := by have := hf 1 _ rfl; simp only [List.getElem_toArray, List.getElem_cons_zero, List.getElem_cons_succ] at this; rw [cells_int] at this; exact this
    have f2 : DataW.trod enc Try.prog W 0 (fun _ => true) held n' 3 [c2] = xs[2]? := by have := hf 2 _ rfl; simp only [List.getElem_toArray, List.getElem_cons_zero, List.getElem_cons_succ] at this; rw [cells_int] at this; exact this
    have f3 : DataW.trod enc Try.prog W 0 (fun _ => true) held n' 56 [c3] = xs[3]? := by have := hf 3 _ rfl; simp only [List.getElem_toArray, List.getElem_cons_zero, List.getElem_cons_succ] at this; rw [cells_bools] at this; exact this
    have f4 : DataW.trod enc Try.prog W 0 (fun _ => true) held n' 57 [c4] = xs[4]? := by have := hf 4 _ rfl; simp only [List.getElem_toArray, List.getElem_cons_zero, List.getElem_cons_succ] at this; rw [cells_ints] at this; exact this
    have f5 : DataW.trod enc Try.prog W 0 (fun _ => true) held n' 9 [c5] = xs[5]? := by have := hf 5 _ rfl; simp only [List.getElem_toArray, List.getElem_cons_zero, List.getElem_cons_succ] at this; rw [cells_str] at this; exact this
    rw [cells_int] at f0
    have some_of : ∀ {i : Nat} {o : Option (DataW H × List MemPlace)}, i < xs.length → o = xs[i]? → ∃ y, o = some y := fun {i o} hi e => ⟨xs[i], by rw [e, List.getElem?_eq_getElem hi]⟩
    have hxl : xs.length = 6 := by assumption
    obtain ⟨y0, e0⟩ := some_of (by omega) f0
    obtain ⟨y1, e1⟩ := some_of (by omega) f1
    obtain ⟨y2, e2⟩ := some_of (by omega) f2
    obtain ⟨y3, e3⟩ := some_of (by omega) f3
    obtain ⟨y4, e4⟩ := some_of (by omega) f4
    obtain ⟨y5, e5⟩ := some_of (by omega) f5
    simp only [List.take_succ_cons, List.take_zero] at e0
    obtain ⟨op, h0, _, w0⟩ := DataW.trod_int Try.underlying3 e0
    obtain ⟨nn, h1, _, w1⟩ := DataW.trod_int Try.underlying3 e1
    obtain ⟨at_, h2, _, w2⟩ := DataW.trod_int Try.underlying3 e2
    obtain ⟨kl, kao, kcap, h3, hk, hkk⟩ := open_keep e3
    obtain ⟨bl, bao, bcap, h4, hbl, hbi, hbb⟩ := open_nums e4
    obtain ⟨s, h5, _, hs⟩ := DataW.trod_string Try.underlying9 e5
    simp only [List.cons.injEq, and_true] at h0 h1 h2 h5
    subst h0 h1 h2 h3 h4 h5
    exact ⟨⟨op, nn, at_, kl, kao, kcap, bl, bao, bcap, s⟩, ⟨wf_i64' w0, wf_i64' w1, wf_i64' w2, hk, hbl, by unfold maxLen at hs; exact hs, hkk, hbi, hbb⟩, rfl⟩

theorem open_act {n : Nat} {a : Addr} {cs : List Value} {x : DataW H × List MemPlace} (hcs : W.cells? 0 a 6 = some cs) (h : DataW.trod enc Try.prog W 0 (fun _ => true) held n 59 cs = some x) :
    ∃ A : Act4, A.Ok W ∧ ∀ j u, A.cells[j]? = some u → W.cell? (a.add j) = some u := by
  obtain ⟨_, hlen, hat⟩ := World.cells?_some hcs
  obtain ⟨A, hA, rfl⟩ := act_cells hlen h
  refine ⟨A, hA, fun j u hu => ?_⟩
  have hj : j < 6 := by
    have := (List.getElem?_eq_some_iff.1 hu).1
    simpa [Act4.cells] using this
  rw [hat j hj]
  exact hu

theorem open_act_value {v : Value} {d : DataW H} {ps : List MemPlace} {r : Reach} {b0 : Nat} (hv : Value.okWide Try.prog W r b0 59 v) (h : DataW.Trod enc Try.prog W 0 (fun _ => true) held 59 v d ps) :
    ∃ A : Act4, v = A.agg ∧ A.Ok W := by
  obtain ⟨cs, rfl, hsz⟩ := okWide_struct Try.underlying59 hv
  obtain ⟨fuel, hf⟩ := h
  obtain ⟨l⟩ := cs
  have hl : l.length = 6 := by simpa using hsz.trans cells_act
  obtain ⟨A, hA, e⟩ := act_cells hl (by simpa [Value.cells] using hf)
  exact ⟨A, by rw [e]; rfl, hA⟩

/-- A slice of numbers. -/
def Nums (w : World) (v : Value) (L : List Int) : Prop :=
  (∀ y ∈ L, -9223372036854775808 ≤ y ∧ y ≤ 9223372036854775807) ∧ L.length ≤ 9223372036854775807 ∧ ∃ ao cap, v = .slice ao L.length cap ∧ (L = [] ∨ ∃ g off, ao = some ⟨g, off, none⟩ ∧ g < w.heap.size ∧ ∀ i (h : i < L.length), w.cell? ⟨g, off + i, none⟩ = some (.int .i64 L[i]))
theorem open_ints {v : Value} {d : DataW H} {ps : List MemPlace} {r : Reach} {b0 : Nat} (hv : Value.okWide Try.prog W r b0 57 v) (h : DataW.Trod enc Try.prog W 0 (fun _ => true) held 57 v d ps) : ∃ L, Nums W v L := by
  obtain ⟨ao, len, cap, rfl⟩ := okWide_slice Try.underlying57 hv
  obtain ⟨fuel, hf⟩ := h
  have hf' : DataW.trod enc Try.prog W 0 (fun _ => true) held fuel 57 [.slice ao len cap] = some (d, ps) := by simpa [Value.cells] using hf
  obtain ⟨kl, kao, kcap, h1, h2, h3, h4⟩ := open_nums hf'
  exact ⟨kl, h3, h2, kao, kcap, h1, h4⟩

theorem open_acts {v : Value} {d : DataW H} {ps : List MemPlace} {r : Reach} {b0 : Nat} (hv : Value.okWide Try.prog W r b0 55 v) (h : DataW.Trod enc Try.prog W 0 (fun _ => true) held 55 v d ps) : ∃ L, Acts4 W v L := by
  obtain ⟨ao, len, cap, rfl⟩ := okWide_slice Try.underlying55 hv
  obtain ⟨fuel, hf⟩ := h
  have hf' : DataW.trod enc Try.prog W 0 (fun _ => true) held fuel 55 [.slice ao len cap] = some (d, ps) := by simpa [Value.cells] using hf
  rcases open_slice Try.underlying55 hf' with ⟨hcs, _⟩ | ⟨a, len', cap', m, n, D, Pl, hcs, _, hl, hm, hmm, _, hc⟩
  · simp only [List.cons.injEq, and_true] at hcs
    cases hcs
    refine ⟨[], ?_⟩
    show _ ∧ _ ∧ _
    exact ⟨(fun a ha => by cases ha), by simp, none, 0, rfl, (fun i hi => by cases hi)⟩
  · simp only [List.cons.injEq, and_true] at hcs
    cases hcs
    simp only [if_true] at hmm
    rw [cells_act] at hc
    obtain ⟨F, hF⟩ := choose_lt (α := Act4) (n := m) (p := fun i A => A.Ok W ∧ ∀ j u, A.cells[j]? = some u → W.cell? (a.add (i * 6 + j)) = some u) (fun i hi => by
      obtain ⟨cs, h1, h2⟩ := hc i hi
      obtain ⟨A, hA, hcell⟩ := open_act h1 h2
      exact ⟨A, hA, fun j u hu => by rw [← add_add]; exact hcell j u hu⟩)
    refine ⟨(List.range len).map F, ?_, by unfold maxLen at hm; simp; omega, some a, cap, by simp, ?_⟩
    · intro A hA
      simp only [List.mem_map, List.mem_range] at hA
      obtain ⟨i, hi, rfl⟩ := hA
      exact (hF i (by omega)).1
    · intro i hi
      have hi' : i < len := by simpa using hi
      have h0 := (hF 0 (by omega)).2 0 _ rfl
      obtain ⟨g, o, hab⟩ := addr_plain h0
      have ha : a = ⟨g, o, none⟩ := by simpa [Addr.add] using hab
      subst ha
      rw [add_plain] at h0
      refine ⟨g, o, rfl, World.block_lt_of_cell? W _ h0, fun j u hu => ?_⟩
      have := (hF i (by omega)).2 j u (by simpa using hu)
      rw [add_plain, ← Nat.add_assoc] at this
      exact this
end
end Go.Proofs.Ytodfcbpimglhdaa
/- What Read answers for every device: an error, or the data of the last pending write of the block, or what lies on it; nothing that was there is changed. -/
namespace Go.Proofs.Ytodfcbpimglhdaa
open Go.RowKit

/-- What is read of block j. -/
def DevS.rdB (D : DevS) (j : Nat) : ByteArray := match D.pend.reverse.find? (fun x => x.1 == j) with | some x => x.2 | none => D.disk.getD j ByteArray.empty
/-- A read: the data, the error. -/
def DevS.rd (D : DevS) (i : Int) : ByteArray × Int := if D.ck i ≠ 0 then (ByteArray.empty, D.ck i) else (D.rdB i.toNat, 0)

theorem find_rev_hit (l : List (Nat × ByteArray)) (j k : Nat) (hk : k < l.length) (hno : ∀ i (h : i < k), (l[l.length - 1 - i]'(by omega)).1 ≠ j) (he : (l[l.length - 1 - k]'(by omega)).1 = j) :
    l.reverse.find? (fun x => x.1 == j) = some (l[l.length - 1 - k]'(by omega)) := by
  rw [List.find?_eq_some_iff_getElem]
  refine ⟨by simpa using he, k, by simpa using hk, ?_, ?_⟩
  · rw [List.getElem_reverse]
  · intro i hi
    rw [List.getElem_reverse]
    have := hno i hi
    simpa using this
theorem find_rev_miss (l : List (Nat × ByteArray)) (j : Nat) (hno : ∀ i (h : i < l.length), (l[l.length - 1 - i]'(by omega)).1 ≠ j) : l.reverse.find? (fun x => x.1 == j) = none := by
  rw [List.find?_eq_none]
  intro x hx
  rw [List.mem_reverse, List.mem_iff_getElem] at hx
  obtain ⟨i, hi, rfl⟩ := hx
  have := hno (l.length - 1 - i) (by omega)
  have e : l.length - 1 - (l.length - 1 - i) = i := by omega
  simp only [e] at this
  simpa using this

section
variable {S : Nat → Prop} {w : World} {p q : Nat} {pv : Value} {D : DevS}

set_option maxRecDepth 100000 in
set_option maxHeartbeats 400000 in
theorem read_no (i : Int) (r : Int) (hr : (r != 0) = true) (hck : D.ck i = r) (d : Dev S w p q pv D) :
    Calls Try.prog 37 #[.pointer (some ⟨p, 0, none⟩), .int .i64 i] w fun e w' => e = .returned (.tuple #[.string ByteArray.empty, .int .i64 r]) ∧ w = w' := by
  have cK := check_any i d; rw [hck] at cK
  have HK := Lib.hid cK; clear cK
  clear hck d
  go_enter Try.func37, Try.ntmps37
  go_wp2_with fail
  refine HK.out.mono ?_
  rintro e w' ⟨rfl, rfl⟩
  go_wp2
  go_ret2
  exact ⟨rfl, rfl⟩

set_option maxRecDepth 100000 in
set_option maxHeartbeats 1000000 in
theorem read_some (j n cap r : Nat) (hn : D.pend.length = n) (hb : n ≤ 1000000) (hck : D.ck j = 0) (hj : j < D.disk.length) (d : Dev S w p q (.slice (some ⟨r, 0, none⟩) n cap) D) :
    Calls Try.prog 37 #[.pointer (some ⟨p, 0, none⟩), .int .i64 j] w fun e w' => e = .returned (.tuple #[.string (D.rdB j), .int .i64 0]) ∧ Below w.heap.size w w' := by
  have cK := check_any j d; rw [hck] at cK
  have HK := Lib.hid cK; clear cK hck
  have c1 := d.c1; have c0 := d.c0
  have cq := d.cq j hj
  have hnd := d.ok.few
  have HN := Lib.hid hn; clear hn
  have HD := Lib.hid d; clear d
  generalize D.disk.length = nd at *
  go_enter Try.func37, Try.ntmps37
  go_wp2_with fail
  refine HK.out.mono ?_
  rintro e w' ⟨rfl, rfl⟩
  go_wp2_with fail
  go_loopw [20] (fun i wr => ∃ k : Nat, k ≤ n ∧ i = .int .i64 k ∧ Hid (∀ i (h : i < k) (h' : D.pend.length - 1 - i < D.pend.length), (D.pend[D.pend.length - 1 - i]).1 ≠ j) ∧ Hid (Below w.heap.size w wr)) (fun i _ => n - (intOf i).toNat)
  case atStart => exact ⟨0, Nat.zero_le _, rfl, fun i h => absurd h (Nat.not_lt_zero _), Below.refl _ _⟩
  case round =>
    obtain ⟨k, hk, rfl, HNo, HB⟩ := hrel
    have lp := HD.out.lt p HD.out.sp
    have lq := HD.out.lt q HD.out.sq
    have HC1 := Lib.hid c1; clear c1
    have HC0 := Lib.hid c0; clear c0
    have HCQ := Lib.hid cq; clear cq
    have c1 := (HB.out.cell (p := ⟨p, 1, none⟩) lp).trans HC1.out
    by_cases hlt : k < n
    · obtain ⟨m, b, data, hix, hmn, d0, d1, HX⟩ : ∃ (m b : Nat) (data : ByteArray), (n : Int) - 1 - (k : Int) = (m : Int) ∧ m < n ∧ wr.cell? ⟨r, m * 2, none⟩ = some (.int .i64 b) ∧ wr.cell? ⟨r, m * 2 + 1, none⟩ = some (.string data) ∧ Hid (∀ h : D.pend.length - 1 - k < D.pend.length, D.pend[D.pend.length - 1 - k]'h = (b, data)) := by
        have hmp : n - 1 - k < D.pend.length := by rw [HN.out]; omega
        obtain ⟨d0, d1⟩ := HD.out.cr (n - 1 - k) hmp
        have lr := HD.out.lt r (HD.out.sr r rfl)
        refine ⟨n - 1 - k, D.pend[n - 1 - k].1, D.pend[n - 1 - k].2, by omega, by omega, (HB.out.cell (p := ⟨r, _, none⟩) lr).trans d0, (HB.out.cell (p := ⟨r, _, none⟩) lr).trans d1, ?_⟩
        intro h
        have e : D.pend.length - 1 - k = n - 1 - k := by rw [HN.out]
        simp only [e]
      have lpr : p < wr.heap.size := Nat.lt_of_lt_of_le lp HB.out.size
      have lrr : r < wr.heap.size := Nat.lt_of_lt_of_le (HD.out.lt r (HD.out.sr r rfl)) HB.out.size
      have w1 : IntKind.i64.wrap ((n : Int) - 1) = (n : Int) - 1 := IntWalk.i64_in _ (by omega)
      have w2 : IntKind.i64.wrap (m : Int) = (m : Int) := IntWalk.i64_in _ (by omega)
      have hm0 : 0 ≤ (m : Int) := by omega
      have hmn' : (m : Int) < (n : Int) := by omega
      have hmt : ((m : Int)).toNat = m := by omega
      have hk' : k < D.pend.length := by rw [HN.out]; exact hlt
      by_cases hbj : b = j
      · have hbj' : ((b : Int) == (j : Int)) = true := by simp [hbj]
        have HE : Hid (D.rdB j = data) := by
          show D.rdB j = data
          unfold DevS.rdB
          rw [find_rev_hit D.pend j k hk' (fun i h => HNo.out i h _) (by rw [HX.out]; exact hbj), HX.out]
        have HBJ := Lib.hid hbj; clear hbj
        go_wp2
        go_region
        go_wp2
        go_ret2
        exact ⟨by rw [HE.out]; rfl, (HB.out.alloc HB.out.size _).drew⟩
      · have hbj' : ((b : Int) == (j : Int)) = false := by simp; omega
        go_wp2
        go_region
        go_wp2
        go_roundw
        case rel =>
          refine ⟨k + 1, by omega, by go_num, fun i hi h' => ?_, (HB.out.alloc HB.out.size _).drew⟩
          by_cases hik : i = k
          · subst hik; rw [HX.out]; exact hbj
          · exact HNo.out i (by omega) h'
        case measure => simp [intOf]; omega
    · have hkn : k = n := by omega
      have c0 := (HB.out.cell (p := ⟨p, 0, none⟩) lp).trans HC0.out
      have cq := (HB.out.cell (p := ⟨q, j, none⟩) lq).trans HCQ.out
      have HE : Hid (D.rdB j = D.disk.getD j ByteArray.empty) := by
        show D.rdB j = _
        unfold DevS.rdB
        rw [find_rev_miss D.pend j (fun i h => HNo.out i (by rw [hkn, ← HN.out]; exact h) _)]
      have HK2 := Lib.hid hkn; clear hkn
      generalize D.disk.getD j ByteArray.empty = old at *
      go_wp2
      go_ret2
      exact ⟨by rw [HE.out]; rfl, HB.out⟩
set_option maxRecDepth 100000 in
set_option maxHeartbeats 1000000 in
theorem read_none (j : Nat) (hn : D.pend = []) (hck : D.ck j = 0) (hj : j < D.disk.length) (d : Dev S w p q (.slice none 0 0) D) :
    Calls Try.prog 37 #[.pointer (some ⟨p, 0, none⟩), .int .i64 j] w fun e w' => e = .returned (.tuple #[.string (D.rdB j), .int .i64 0]) ∧ w = w' := by
  have cK := check_any j d; rw [hck] at cK
  have HK := Lib.hid cK; clear cK hck
  have c1 := d.c1; have c0 := d.c0
  have cq := d.cq j hj
  have hnd := d.ok.few
  have HE : Hid (D.rdB j = D.disk.getD j ByteArray.empty) := by show D.rdB j = _; unfold DevS.rdB; rw [hn]; rfl
  clear d hn
  generalize D.disk.getD j ByteArray.empty = old at *
  generalize D.disk.length = nd at *
  go_enter Try.func37, Try.ntmps37
  go_wp2_with fail
  refine HK.out.mono ?_
  rintro e w' ⟨rfl, rfl⟩
  go_wp2_with fail
  go_loopw [20] (fun i wr => i = .int .i64 0 ∧ wr = w) (fun _ _ => 0)
  case atStart => exact ⟨rfl, rfl⟩
  case round =>
    obtain ⟨rfl, rfl⟩ := hrel
    go_wp2
    go_ret2
    exact ⟨by rw [HE.out]; rfl, rfl⟩

theorem read_any (i : Int) (hl : D.pend.length ≤ 1000000) (d : Stands S w p D) :
    Calls Try.prog 37 #[.pointer (some ⟨p, 0, none⟩), .int .i64 i] w fun e w' => e = .returned (.tuple #[.string (D.rd i).1, .int .i64 (D.rd i).2]) ∧ Below w.heap.size w w' := by
  obtain ⟨q, pv, d⟩ := d
  by_cases h1 : D.ck i = 0
  · have hk : 0 ≤ i ∧ i < D.disk.length := by
      unfold DevS.ck at h1
      split at h1
      · omega
      · split at h1 <;> omega
    obtain ⟨j, rfl⟩ := Int.eq_ofNat_of_zero_le hk.1
    have e : D.rd j = (D.rdB j, 0) := by simp [DevS.rd, h1]
    rw [e]
    rcases d.hr.2 with ⟨rfl, h0⟩ | ⟨r, cap, cur, rfl, _⟩
    · exact (read_none j (List.eq_nil_of_length_eq_zero h0) h1 (by omega) d).mono fun e w' ⟨he, hw⟩ => by subst hw; exact ⟨he, Below.refl _ _⟩
    · exact read_some j _ cap r rfl hl h1 (by omega) d
  · have e : D.rd i = (ByteArray.empty, D.ck i) := by simp [DevS.rd, h1]
    rw [e]
    exact (read_no i _ (by simpa using h1) rfl d).mono fun e w' ⟨he, hw⟩ => by subst hw; exact ⟨he, Below.refl _ _⟩

end
end Go.Proofs.Ytodfcbpimglhdaa
/- The device's methods over one device of the call's own: what was there when the call began is never touched. -/
namespace Go.Proofs.Ytodfcbpimglhdaa
open Go.RowKit

/-- Behind world w0 block p is a device that says D; what was there in w0 is as it was. -/
def At (w0 w : World) (p : Nat) (D : DevS) : Prop := ∃ S : Nat → Prop, (∀ k, S k → w0.heap.size ≤ k) ∧ Stands S w p D ∧ Below w0.heap.size w0 w

section
variable {w0 w w' : World} {p : Nat} {D : DevS}

theorem At.bel (h : At w0 w p D) : Below w0.heap.size w0 w := by obtain ⟨S, _, _, hb⟩ := h; exact hb
theorem At.ok (h : At w0 w p D) : D.Ok := by obtain ⟨S, _, hs, _⟩ := h; exact hs.ok
theorem At.below (h : At w0 w p D) (hb : Below w.heap.size w w') : At w0 w' p D := by
  obtain ⟨S, hS, hs, h0⟩ := h
  exact ⟨S, hS, hs.below hb, h0.trans (hb.mono h0.size)⟩
theorem At.of_fresh {w0 w w' : World} (hb : Below w0.heap.size w0 w) (h : Fresh w w' p D) : At w0 w' p D := by
  obtain ⟨S, hS, hs, hb'⟩ := h
  exact ⟨S, fun k hk => Nat.le_trans hb.size (hS k hk), hs, hb.trans (hb'.mono hb.size)⟩
theorem At.leaves {S : Nat → Prop} {D' : DevS} (hS : ∀ k, S k → w0.heap.size ≤ k) (h0 : Below w0.heap.size w0 w) (h : Leaves S w w' p D') : At w0 w' p D' := by
  obtain ⟨S', hS', hs, ho⟩ := h
  refine ⟨S', fun k hk => ?_, hs, h0.trans (ho.below h0.size (fun k _ hk => hS k hk))⟩
  rcases hS' k hk with h | h
  · exact hS k h
  · exact Nat.le_trans h0.size h

theorem At.new (n : Int) (h : 1 ≤ n ∧ n ≤ 4096) (hb : Below w0.heap.size w0 w) :
    Calls Try.prog 11 #[.int .i64 n] w fun e w' => ∃ p, e = .returned (.tuple #[.pointer (some ⟨p, 0, none⟩), .int .i64 0]) ∧ At w0 w' p (DevS.made n.toNat) :=
  (new_any n w h).mono fun _ _ ⟨p, he, hf⟩ => ⟨p, he, .of_fresh hb hf⟩
theorem At.read (i : Int) (hl : D.pend.length ≤ 1000000) (h : At w0 w p D) :
    Calls Try.prog 37 #[.pointer (some ⟨p, 0, none⟩), .int .i64 i] w fun e w' => e = .returned (.tuple #[.string (D.rd i).1, .int .i64 (D.rd i).2]) ∧ At w0 w' p D := by
  have h' := h
  obtain ⟨S, hS, hs, h0⟩ := h
  exact (read_any i hl hs).mono fun _ _ ⟨he, hb⟩ => ⟨he, h'.below hb⟩
theorem At.write (i : Int) (s : ByteArray) (hl : D.pend.length ≤ 1000000) (h : At w0 w p D) :
    Calls Try.prog 13 #[.pointer (some ⟨p, 0, none⟩), .int .i64 i, .string s] w fun e w' => e = .returned (.int .i64 (D.wr i s).1) ∧ At w0 w' p (D.wr i s).2 := by
  obtain ⟨S, hS, hs, h0⟩ := h
  exact (write_any i s hl hs).mono fun _ _ ⟨he, hv⟩ => ⟨he, .leaves hS h0 hv⟩
theorem At.flush (hl : D.pend.length ≤ 1000000) (h : At w0 w p D) :
    Calls Try.prog 40 #[.pointer (some ⟨p, 0, none⟩)] w fun e w' => e = .returned (.int .i64 D.fl.1) ∧ At w0 w' p D.fl.2 := by
  obtain ⟨S, hS, hs, h0⟩ := h
  exact (flush_any hl hs).mono fun _ _ ⟨he, h1, h2⟩ => ⟨he, .leaves hS h0 (.mk h1 h2)⟩
theorem At.fuse (n : Int) (hn : n ≤ 9223372036854775807) (h : At w0 w p D) :
    Calls Try.prog 27 #[.pointer (some ⟨p, 0, none⟩), .int .i64 n] w fun e w' => e = .returned (.tuple #[]) ∧ At w0 w' p (D.setFuse n) := by
  obtain ⟨S, hS, hs, h0⟩ := h
  exact (fuse_any n hn hs).mono fun _ _ ⟨he, h1, h2⟩ => ⟨he, .leaves hS h0 (.mk h1 h2)⟩
/-- A slice of bools that lies below w0's end, or in a block of one's own that is no device's. -/
def BoolsOut (w0 w : World) (v : Value) (kl : List Bool) : Prop :=
  ∃ ao cap, v = .slice ao kl.length cap ∧ (kl = [] ∨ ∃ g off, ao = some ⟨g, off, none⟩ ∧ g < w0.heap.size ∧ ∀ i (h : i < kl.length), w.cell? ⟨g, off + i, none⟩ = some (.bool kl[i]))
theorem At.crash (kl : List Bool) (torn cut : Int) (v : Value) (hl : D.pend.length ≤ 1000000) (hkl : kl.length ≤ 9223372036854775807) (h : At w0 w p D) (hv : BoolsOut w0 w v kl) :
    Calls Try.prog 31 #[.pointer (some ⟨p, 0, none⟩), v, .int .i64 torn, .int .i64 cut] w fun e w' => e = .returned (.tuple #[]) ∧ At w0 w' p (D.crash kl torn cut) := by
  obtain ⟨S, hS, hs, h0⟩ := h
  have hv' : Bools S w v kl := by
    obtain ⟨ao, cap, hv, h⟩ := hv
    refine ⟨ao, cap, hv, ?_⟩
    rcases h with h | ⟨g, off, ha, hg, hc⟩
    · exact .inl h
    · exact .inr ⟨g, off, ha, fun hs => by have := hS g hs; omega, hc⟩
  exact (crash_any kl torn cut v hl hkl hs hv').mono fun _ _ ⟨he, h1, h2⟩ => ⟨he, .leaves hS h0 (.mk h1 h2)⟩
/-- A crash whose list of one bool was made for it. -/
theorem At.crash_one (b : Bool) (torn cut : Int) (hl : D.pend.length ≤ 1000000) (h : At w0 w p D) :
    Calls Try.prog 31 #[.pointer (some ⟨p, 0, none⟩), .slice (some ⟨w.heap.size, 0, none⟩) 1 1, .int .i64 torn, .int .i64 cut] (w.alloc (.cells #[.bool b] 4)) fun e w' => e = .returned (.tuple #[]) ∧ At w0 w' p (D.crash [b] torn cut) := by
  obtain ⟨S, hS, hs, h0⟩ := h
  have hlt := hs.lt
  have hb : Below w.heap.size w (w.alloc (.cells #[.bool b] 4)) := (Below.refl _ _).alloc (Nat.le_refl _) _
  have hv' : Bools S (w.alloc (.cells #[.bool b] 4)) (.slice (some ⟨w.heap.size, 0, none⟩) 1 1) [b] := by
    refine ⟨_, 1, rfl, .inr ⟨w.heap.size, 0, rfl, fun hs => by have := hlt _ hs; omega, ?_⟩⟩
    intro i hi
    have : i = 0 := by simpa using hi
    subst this
    rw [cell_at (heap_alloc_new w _)]; rfl
  exact (crash_any [b] torn cut _ hl (by simp) (hs.below hb) hv').mono fun _ _ ⟨he, h1, h2⟩ => ⟨he, .leaves hS (h0.trans (hb.mono h0.size)) (.mk h1 h2)⟩
theorem At.dead (h : At w0 w p D) :
    Calls Try.prog 39 #[.pointer (some ⟨p, 0, none⟩)] w fun e w' => e = .returned (.bool D.dead) ∧ w = w' := by
  obtain ⟨S, hS, hs, h0⟩ := h; exact dead_any hs
theorem At.blocks (h : At w0 w p D) :
    Calls Try.prog 38 #[.pointer (some ⟨p, 0, none⟩)] w fun e w' => e = .returned (.int .i64 D.disk.length) ∧ w = w' := by
  obtain ⟨S, hS, hs, h0⟩ := h; exact blocks_any hs
theorem At.disk (h : At w0 w p D) :
    Calls Try.prog 19 #[.pointer (some ⟨p, 0, none⟩)] w fun e w' => ∃ v, e = .returned v ∧ w'.ownsRow w.heap.size 9 1 v D.disk.length (D.disk.map Value.string) ∧ Below w.heap.size w w' ∧ At w0 w' p D := by
  have h' := h
  obtain ⟨S, hS, hs, h0⟩ := h
  exact (disk_any hs).mono fun _ _ ⟨v, he, h1, h2⟩ => ⟨v, he, h1, h2, h'.below h2⟩
end
end Go.Proofs.Ytodfcbpimglhdaa
/- Journals in plain numbers and lists: what a slot is, what Format, Open, Commit and Checkpoint do with a device; nothing of the program is walked here. -/
namespace Go.Proofs.Ytodfcbpimglhdaa
open Go.RowKit
open Fr (bs fixL nmAt packL chkL chk unp hd)

/-- A journal: the slot that counts (its number e, its s, its log, its place p), its block, the next frame's number, the blocks of the frames. -/
structure JS where
  e : Nat
  s : Nat
  log : Nat
  p : Nat
  side : Nat
  next : Nat
  full : Nat

/-- What is always so of a journal on a device of n blocks. -/
structure JS.Ok (J : JS) (n : Nat) : Prop where
  l0 : 50 ≤ J.log
  l1 : J.log + 3 ≤ n
  pl : J.p < J.log
  si : J.side ≤ 1
  fu : J.full ≤ J.log
  e64 : J.e < 18446744073709551616
  s64 : J.s < 18446744073709551616
  n64 : J.next < 18446744073709551616

def JS.pos (J : JS) (i : Nat) : Nat := 2 + (J.p + J.full + i) % J.log
def JS.home (J : JS) : Nat := 2 + J.log
def JS.left (J : JS) : Nat := J.log - J.full
def JS.grow (J : JS) (n : Nat) : JS := { J with next := (J.next + 1) % 18446744073709551616, full := J.full + n }

/-- Half of a slot's block; the block. -/
def halfL (e s log p : Nat) : List UInt8 := [67, 68, 88, 83] ++ (fixL (e % 4294967296) ++ (fixL (e / 4294967296) ++ (fixL (s % 4294967296) ++ (fixL (s / 4294967296) ++ (fixL log ++ (fixL p ++ List.replicate 100 0))))))
def slotB (e s log p : Nat) : ByteArray := bs (halfL e s log p ++ halfL e s log p)
theorem halfL_len (e s log p : Nat) : (halfL e s log p).length = 128 := by
  unfold halfL; simp only [List.length_append, Fr.fixL_len, List.length_replicate, List.length_cons, List.length_nil]
theorem slotB_size (e s log p : Nat) : (slotB e s log p).size = 256 := by
  unfold slotB; rw [Fr.bs_len, List.length_append, halfL_len]

def wideAt (l : List UInt8) (i : Nat) : Nat := nmAt l i + 4294967296 * nmAt l (i + 4)
/-- A block's slot, on a device of n blocks. -/
def rdSlot (t : ByteArray) (n : Nat) : Option (Nat × Nat × Nat × Nat) :=
  let l := t.data.toList
  if 50 ≤ nmAt l 20 ∧ nmAt l 20 + 3 ≤ n ∧ nmAt l 24 < nmAt l 20 ∧ t = slotB (wideAt l 4) (wideAt l 12) (nmAt l 20) (nmAt l 24) then some (wideAt l 4, wideAt l 12, nmAt l 20, nmAt l 24) else none

/-- Writes, in order, up to the first error; and a flush behind them. -/
def DevS.wrs (D : DevS) : List (Int × ByteArray) → Int × DevS
  | [] => (0, D)
  | x :: r => if (D.wr x.1 x.2).1 ≠ 0 then D.wr x.1 x.2 else DevS.wrs (D.wr x.1 x.2).2 r
def DevS.stl (D : DevS) (l : List (Int × ByteArray)) : Int × DevS := if (D.wrs l).1 ≠ 0 then D.wrs l else (D.wrs l).2.fl

theorem DevS.wrs_snoc (D : DevS) (l : List (Int × ByteArray)) (x : Int × ByteArray) (h : (D.wrs l).1 = 0) : D.wrs (l ++ [x]) = (D.wrs l).2.wr x.1 x.2 := by
  induction l generalizing D with
  | nil =>
    show DevS.wrs D [x] = _
    unfold DevS.wrs
    split
    · rfl
    · rename_i h2
      have e : (D.wr x.1 x.2).1 = 0 := by omega
      show (0, _) = D.wr x.1 x.2
      exact Prod.ext e.symm rfl
  | cons y r ih =>
    rw [List.cons_append]
    unfold DevS.wrs at h ⊢
    split at h
    · rename_i h2; exact absurd h h2
    · rename_i h2; rw [if_neg h2, if_neg h2]; exact ih _ h
theorem DevS.wrs_err (D : DevS) (l m : List (Int × ByteArray)) (h : (D.wrs l).1 ≠ 0) : D.wrs (l ++ m) = D.wrs l := by
  induction l generalizing D with
  | nil => exact absurd rfl h
  | cons y r ih =>
    rw [List.cons_append]
    unfold DevS.wrs at h ⊢
    split at h
    · rename_i h2; rw [if_pos h2, if_pos h2]
    · rename_i h2; rw [if_neg h2, if_neg h2]; exact ih _ h
theorem DevS.wrs_append (D : DevS) (l m : List (Int × ByteArray)) (h : (D.wrs l).1 = 0) : D.wrs (l ++ m) = (D.wrs l).2.wrs m := by
  induction l generalizing D with
  | nil => rfl
  | cons y r ih =>
    rw [List.cons_append]
    unfold DevS.wrs at h
    conv => lhs; unfold DevS.wrs
    conv => rhs; arg 1; unfold DevS.wrs
    split at h
    · rename_i h2; exact absurd h h2
    · rename_i h2; rw [if_neg h2, if_neg h2]; exact ih _ h
theorem DevS.wr_len (D : DevS) (i : Int) (s : ByteArray) : (D.wr i s).2.pend.length ≤ D.pend.length + 1 := by
  unfold DevS.wr
  split
  · exact Nat.le_succ _
  · split
    · exact Nat.le_succ _
    · split
      · rw [DevS.tk_pend]; exact Nat.le_succ _
      · simp
theorem DevS.wrs_len (D : DevS) (l : List (Int × ByteArray)) : (D.wrs l).2.pend.length ≤ D.pend.length + l.length := by
  induction l generalizing D with
  | nil => exact Nat.le_refl _
  | cons x r ih =>
    have h := D.wr_len x.1 x.2
    unfold DevS.wrs
    split
    · rw [List.length_cons]; omega
    · have := ih (D.wr x.1 x.2).2; rw [List.length_cons]; omega
theorem DevS.fl_len (D : DevS) : D.fl.2.pend.length ≤ D.pend.length := by
  unfold DevS.fl
  split
  · exact Nat.le_refl _
  · split
    · rw [DevS.tk_pend]; exact Nat.le_refl _
    · exact Nat.zero_le _
theorem DevS.stl_len (D : DevS) (l : List (Int × ByteArray)) : (D.stl l).2.pend.length ≤ D.pend.length + l.length := by
  have h := D.wrs_len l
  have h2 := (D.wrs l).2.fl_len
  unfold DevS.stl
  split <;> omega
theorem DevS.wr_disk (D : DevS) (i : Int) (s : ByteArray) : (D.wr i s).2.disk = D.disk := by
  unfold DevS.wr
  split
  · rfl
  · split
    · rfl
    · split
      · exact DevS.tk_disk D
      · exact DevS.tk_disk D
theorem DevS.wrs_disk (D : DevS) (l : List (Int × ByteArray)) : (D.wrs l).2.disk = D.disk := by
  induction l generalizing D with
  | nil => rfl
  | cons x r ih =>
    unfold DevS.wrs
    split
    · exact D.wr_disk _ _
    · rw [ih, D.wr_disk]
theorem DevS.fl_disk (D : DevS) : D.fl.2.disk.length = D.disk.length := by
  unfold DevS.fl
  split
  · rfl
  · split
    · rw [DevS.tk_disk]
    · simp [laidTo_length]
theorem DevS.stl_disk (D : DevS) (l : List (Int × ByteArray)) : (D.stl l).2.disk.length = D.disk.length := by
  unfold DevS.stl
  split
  · rw [D.wrs_disk]
  · rw [DevS.fl_disk, D.wrs_disk]
theorem DevS.tk_dead (D : DevS) (h : D.tk.1 = true) : D.tk.2.dead = D.dead := by
  unfold DevS.tk at *
  split
  · rfl
  · split
    · rename_i h1 h2; rw [if_neg h1, if_pos h2] at h; cases h
    · rfl
theorem DevS.wr_live (D : DevS) (i : Int) (s : ByteArray) (h : (D.wr i s).1 = 0) : (D.wr i s).2.dead = false := by
  unfold DevS.wr at *
  split
  · rename_i h1; rw [if_pos h1] at h; exact absurd h h1
  · rename_i h1
    rw [if_neg h1] at h
    split
    · rename_i h2; rw [if_pos h2] at h; cases h
    · rename_i h2
      rw [if_neg h2] at h
      split
      · rename_i h3; rw [if_pos h3] at h; cases h
      · rename_i h3
        show D.tk.2.dead = false
        rw [D.tk_dead (by simpa using h3)]
        have h0 : D.ck i = 0 := by simpa using h1
        unfold DevS.ck at h0
        cases hd : D.dead with
        | false => rfl
        | true => rw [hd] at h0; simp at h0
theorem DevS.wrs_live (D : DevS) (l : List (Int × ByteArray)) (hd : D.dead = false) (h : (D.wrs l).1 = 0) : (D.wrs l).2.dead = false := by
  induction l generalizing D with
  | nil => exact hd
  | cons x r ih =>
    unfold DevS.wrs at h ⊢
    split
    · rename_i h1; rw [if_pos h1] at h; exact absurd h h1
    · rename_i h1; rw [if_neg h1] at h; exact ih _ (D.wr_live _ _ (by simpa using h1)) h
theorem DevS.fl_live (D : DevS) (h : D.fl.1 = 0) : D.fl.2.dead = false := by
  unfold DevS.fl at *
  split
  · rename_i h1; rw [if_pos h1] at h; cases h
  · rename_i h1
    rw [if_neg h1] at h
    split
    · rename_i h2; rw [if_pos h2] at h; cases h
    · rename_i h2
      show D.tk.2.dead = false
      rw [D.tk_dead (by simpa using h2)]; simpa using h1
theorem DevS.stl_live (D : DevS) (l : List (Int × ByteArray)) (h : (D.stl l).1 = 0) : (D.stl l).2.dead = false := by
  unfold DevS.stl at *
  split
  · rename_i h1; rw [if_pos h1] at h; exact absurd h h1
  · rename_i h1; rw [if_neg h1] at h; exact DevS.fl_live _ h

/-- Why writes cannot be committed. -/
def JS.chk1 (J : JS) (n : Nat) (x : Int × ByteArray) : Nat := if x.1 < J.home ∨ (n : Int) ≤ x.1 then 2 else if x.2.size ≠ 256 then 3 else 0
def JS.chkL (J : JS) (n : Nat) : List (Int × ByteArray) → Nat
  | [] => 0
  | x :: l => if J.chk1 n x = 0 then JS.chkL J n l else J.chk1 n x
def JS.chk (J : JS) (n : Nat) (l : List (Int × ByteArray)) : Nat := if l.length = 0 ∨ 48 < l.length then 6 else J.chkL n l
def JS.WrOk (J : JS) (n : Nat) (x : Int × ByteArray) : Prop := J.home ≤ x.1 ∧ x.1 < n ∧ x.2.size = 256
theorem JS.chk1_ok (J : JS) (n : Nat) (x : Int × ByteArray) : J.chk1 n x = 0 ↔ J.WrOk n x := by
  unfold JS.chk1 JS.WrOk
  by_cases h : x.1 < J.home ∨ (n : Int) ≤ x.1
  · rw [if_pos h]; constructor
    · intro h2; omega
    · intro h2; omega
  · rw [if_neg h]
    by_cases h2 : x.2.size ≠ 256
    · rw [if_pos h2]; constructor
      · intro h2; omega
      · intro h3; exact absurd h3.2.2 h2
    · rw [if_neg h2]; constructor
      · intro _; exact ⟨by omega, by omega, by omega⟩
      · intro _; rfl
theorem JS.chkL_ok (J : JS) (n : Nat) (l : List (Int × ByteArray)) : J.chkL n l = 0 ↔ ∀ x ∈ l, J.WrOk n x := by
  induction l with
  | nil => simp [JS.chkL]
  | cons x l ih =>
    unfold JS.chkL
    by_cases h : J.chk1 n x = 0
    · rw [if_pos h, ih]
      constructor
      · intro h2 y hy
        rcases List.mem_cons.1 hy with rfl | hy
        · exact (J.chk1_ok n _).1 h
        · exact h2 y hy
      · intro h2 y hy; exact h2 y (List.mem_cons_of_mem _ hy)
    · rw [if_neg h]
      constructor
      · intro h2; exact absurd h2 h
      · intro h2; exact absurd ((J.chk1_ok n x).2 (h2 x (List.mem_cons_self ..))) h
theorem JS.chkL_drop (J : JS) (n : Nat) (l : List (Int × ByteArray)) (k : Nat) (h : k < l.length) (hk : J.chk1 n l[k] = 0) : J.chkL n (l.drop k) = J.chkL n (l.drop (k + 1)) := by
  rw [List.drop_eq_getElem_cons h]; show (if J.chk1 n l[k] = 0 then _ else _) = _; rw [if_pos hk]
theorem JS.chkL_at (J : JS) (n : Nat) (l : List (Int × ByteArray)) (k : Nat) (h : k < l.length) (hk : J.chk1 n l[k] ≠ 0) : J.chkL n (l.drop k) = J.chk1 n l[k] := by
  rw [List.drop_eq_getElem_cons h]; show (if J.chk1 n l[k] = 0 then _ else _) = _; rw [if_neg hk]
theorem JS.chk_ok (J : JS) (n : Nat) (l : List (Int × ByteArray)) : J.chk n l = 0 ↔ 1 ≤ l.length ∧ l.length ≤ 48 ∧ ∀ x ∈ l, J.WrOk n x := by
  unfold JS.chk
  by_cases h : l.length = 0 ∨ 48 < l.length
  · rw [if_pos h]; constructor
    · intro h2; omega
    · intro h2; omega
  · rw [if_neg h, J.chkL_ok]; constructor
    · intro h2; exact ⟨by omega, by omega, h2⟩
    · intro h2; exact h2.2.2

/-- A checkpoint: the error, the device, the journal. -/
def JS.next' (J : JS) : JS := ⟨(J.e + 1) % 18446744073709551616, J.next, J.log, J.pos 0 - 2, 1 - J.side, J.next, 0⟩
def JS.ckp (J : JS) (D : DevS) : Int × DevS × JS :=
  let a := D.stl [(((J.pos 0 : Nat) : Int), noughts)]
  if a.1 ≠ 0 then (a.1, a.2, J) else
  let b := a.2.stl [(((1 - J.side : Nat) : Int), slotB ((J.e + 1) % 18446744073709551616) J.next J.log (J.pos 0 - 2))]
  if b.1 ≠ 0 then (b.1, b.2, J) else (0, b.2, J.next')
/-- What is written of a frame's data, behind its head's place. -/
def JS.dataW (J : JS) (ds : List ByteArray) : List (Int × ByteArray) := ((List.range ds.length).map fun i => (((J.pos (i + 1) : Nat) : Int), ds.getD i ByteArray.empty)) ++ [(((J.pos (ds.length + 1) : Nat) : Int), noughts)]
def JS.addF (J : JS) (D : DevS) (top : ByteArray) (ds : List ByteArray) : Int × DevS × JS :=
  let a := D.stl (J.dataW ds)
  if a.1 ≠ 0 then (a.1, a.2, J) else
  let b := a.2.stl [(((J.pos 0 : Nat) : Int), top)]
  if b.1 ≠ 0 then (b.1, b.2, J) else (0, b.2, J.grow (ds.length + 1))
def JS.commit (J : JS) (D : DevS) (l : List (Int × ByteArray)) : Int × DevS × JS :=
  if J.chk D.disk.length l ≠ 0 then (J.chk D.disk.length l, D, J) else
  let c := if J.left < l.length + 2 then J.ckp D else (0, D, J)
  if c.1 ≠ 0 then c else
  let a := c.2.2.addF c.2.1 (bs (Fr.topL J.next l)) (l.map (·.2))
  if a.1 ≠ 0 then a else ((a.2.1.wrs l).1, (a.2.1.wrs l).2, a.2.2)
/-- The writes of the frame behind those that are there. -/
def JS.frameAt (J : JS) (D : DevS) : List ByteArray := D.rdB (J.pos 0) :: (List.range (nmAt (D.rdB (J.pos 0)).data.toList 12)).map fun i => D.rdB (J.pos (i + 1))
def JS.frameOf (J : JS) (D : DevS) : Option (List (Int × ByteArray)) :=
  if Fr.headB (D.rdB (J.pos 0)).data.toList = true ∧ nmAt (D.rdB (J.pos 0)).data.toList 12 + 1 ≤ J.left ∧ (unp (J.frameAt D)).2.2 = 0 ∧ (unp (J.frameAt D)).1 = J.next ∧ J.chk D.disk.length (unp (J.frameAt D)).2.1 = 0
  then some (unp (J.frameAt D)).2.1 else none
def JS.redoN (J : JS) (D : DevS) : Nat → Int × DevS × JS
  | 0 => (0, D, J)
  | m + 1 => match J.frameOf D with
    | none => (0, D, J)
    | some ws => if (D.wrs ws).1 ≠ 0 then ((D.wrs ws).1, (D.wrs ws).2, J.grow (ws.length + 1)) else JS.redoN (J.grow (ws.length + 1)) (D.wrs ws).2 m
def JS.redo (J : JS) (D : DevS) : Int × DevS × JS := J.redoN D (J.log + 1)
/-- The slot that counts. -/
def slotJ (x : Nat × Nat × Nat × Nat) (i : Nat) : JS := ⟨x.1, x.2.1, x.2.2.1, x.2.2.2, i, x.2.1, 0⟩
def DevS.slotAt (D : DevS) (i : Nat) : Option (Nat × Nat × Nat × Nat) := if i < D.disk.length then rdSlot (D.rdB i) D.disk.length else none
def DevS.find (D : DevS) : Option JS :=
  match D.slotAt 0, D.slotAt 1 with
  | none, none => none
  | some x, none => some (slotJ x 0)
  | none, some y => some (slotJ y 1)
  | some x, some y => if x.1 < y.1 then some (slotJ y 1) else some (slotJ x 0)
def DevS.opn (D : DevS) : Int × DevS × Option JS :=
  if D.dead then (4, D, none) else
  match D.find with
  | none => (10, D, none)
  | some J =>
    let r := J.redo D
    if r.1 ≠ 0 then (r.1, r.2.1, none) else
    let c := r.2.2.ckp r.2.1
    if c.1 ≠ 0 then (c.1, c.2.1, none) else (0, c.2.1, some c.2.2)
def fmtL (log : Nat) : List (Int × ByteArray) := ((List.range (log + 1)).map fun i => (((i + 1 : Nat) : Int), noughts)) ++ [(0, slotB 1 1 log 0)]
def DevS.fmt (D : DevS) (log : Int) : Int × DevS := if log < 50 ∨ (D.disk.length : Int) - 3 < log then (2, D) else D.stl (fmtL log.toNat)
end Go.Proofs.Ytodfcbpimglhdaa
/- A journal in memory, and what its smallest calls answer: Seq, Home, Used, left, behind, grow, fits, noughts. -/
namespace Go.Proofs.Ytodfcbpimglhdaa
open Go.RowKit
open Fr (bs fixL nmAt)

def JCells (p : Nat) (J : JS) : Array Value := #[.pointer (some ⟨p, 0, none⟩), .int .u64 J.e, .int .u64 J.s, .int .i64 J.log, .int .i64 J.p, .int .i64 J.side, .int .u64 J.next, .int .i64 J.full]
/-- Block a is a journal (of type t) over the device p, and says J. -/
def Jr (t : TypeId) (w : World) (a p : Nat) (J : JS) : Prop := w.heap[a]? = some (.cells (JCells p J) t (0, 0))
section
variable {t : TypeId} {w w' : World} {a p : Nat} {J : JS}
theorem Jr.c0 (h : Jr t w a p J) : w.cell? ⟨a, 0, none⟩ = some (.pointer (some ⟨p, 0, none⟩)) := by rw [cell_at h]; rfl
theorem Jr.c1 (h : Jr t w a p J) : w.cell? ⟨a, 1, none⟩ = some (.int .u64 J.e) := by rw [cell_at h]; rfl
theorem Jr.c2 (h : Jr t w a p J) : w.cell? ⟨a, 2, none⟩ = some (.int .u64 J.s) := by rw [cell_at h]; rfl
theorem Jr.c3 (h : Jr t w a p J) : w.cell? ⟨a, 3, none⟩ = some (.int .i64 J.log) := by rw [cell_at h]; rfl
theorem Jr.c4 (h : Jr t w a p J) : w.cell? ⟨a, 4, none⟩ = some (.int .i64 J.p) := by rw [cell_at h]; rfl
theorem Jr.c5 (h : Jr t w a p J) : w.cell? ⟨a, 5, none⟩ = some (.int .i64 J.side) := by rw [cell_at h]; rfl
theorem Jr.c6 (h : Jr t w a p J) : w.cell? ⟨a, 6, none⟩ = some (.int .u64 J.next) := by rw [cell_at h]; rfl
theorem Jr.c7 (h : Jr t w a p J) : w.cell? ⟨a, 7, none⟩ = some (.int .i64 J.full) := by rw [cell_at h]; rfl
theorem Jr.f (h : Jr t w a p J) (i : Nat) : w.frozen? ⟨a, i, none⟩ = false := free_at h i
theorem Jr.lt (h : Jr t w a p J) : a < w.heap.size := (Array.getElem?_eq_some_iff.1 h).1
theorem Jr.below (h : Jr t w a p J) (hb : Below w.heap.size w w') : Jr t w' a p J := by unfold Jr; rw [hb.block a h.lt]; exact h
theorem Jr.only {S : Nat → Prop} (h : Jr t w a p J) (ho : Only S w w') (hs : ¬ S a) : Jr t w' a p J := by unfold Jr; rw [ho.block a h.lt hs]; exact h
end

theorem pos_split (p full i log : Nat) (h0 : p < log) (h1 : full + i ≤ log) :
    (p + full + i < log ∧ 2 + (p + full + i) % log = 2 + (p + full + i)) ∨ (log ≤ p + full + i ∧ 2 + (p + full + i) % log = 2 + (p + full + i - log)) := by
  by_cases h : p + full + i < log
  · exact .inl ⟨h, by rw [Nat.mod_eq_of_lt h]⟩
  · refine .inr ⟨by omega, ?_⟩
    rw [Nat.mod_eq_sub_mod (by omega), Nat.mod_eq_of_lt (by omega)]
theorem JS.Ok.pos_lt {J : JS} {n : Nat} (h : J.Ok n) (i : Nat) : 2 ≤ J.pos i ∧ J.pos i < 2 + J.log := by
  have := Nat.mod_lt (J.p + J.full + i) (show 0 < J.log by have := h.l0; omega)
  unfold JS.pos; omega

section
variable {w : World} {a p : Nat} {J : JS} {n : Nat}

set_option maxRecDepth 100000 in
set_option maxHeartbeats 400000 in
theorem seq_any (h : Jr 85 w a p J) : Calls Try.prog 20 #[.pointer (some ⟨a, 0, none⟩)] w fun e w' => e = .returned (.int .u64 J.next) ∧ w = w' := by
  have c := h.c6; clear h
  go_enter Try.func20, Try.ntmps20
  go_wp2
  go_ret
  exact ⟨rfl, rfl⟩

set_option maxRecDepth 100000 in
set_option maxHeartbeats 400000 in
theorem used_any (h : Jr 85 w a p J) : Calls Try.prog 34 #[.pointer (some ⟨a, 0, none⟩)] w fun e w' => e = .returned (.int .i64 J.full) ∧ w = w' := by
  have c := h.c7; clear h
  go_enter Try.func34, Try.ntmps34
  go_wp2
  go_ret
  exact ⟨rfl, rfl⟩

set_option maxRecDepth 100000 in
set_option maxHeartbeats 400000 in
theorem home_any (h : Jr 85 w a p J) (hl : J.log ≤ 4096) : Calls Try.prog 21 #[.pointer (some ⟨a, 0, none⟩)] w fun e w' => e = .returned (.int .i64 J.home) ∧ w = w' := by
  have c := h.c3; clear h
  have e0 : (J.home : Int) = 2 + (J.log : Int) := by unfold JS.home; omega
  rw [e0]; clear e0
  generalize J.log = l at *
  go_enter Try.func21, Try.ntmps21
  go_wp2
  go_ret
  exact ⟨rfl, rfl⟩

set_option maxRecDepth 100000 in
set_option maxHeartbeats 400000 in
theorem left_drew (h : Jr 85 w a p J) (ok : J.Ok n) (hn : n ≤ 4096) : Calls Try.prog 62 #[.pointer (some ⟨a, 0, none⟩)] w fun e w' => e = .returned (.int .i64 J.left) ∧ w' = w.drew := by
  have c := h.c3; have c7 := h.c7; clear h
  have h1 := ok.l1; have h2 := ok.fu
  have e0 : (J.left : Int) = (J.log : Int) - (J.full : Int) := by unfold JS.left; omega
  rw [e0]; clear e0 ok
  generalize J.log = l at *
  generalize J.full = f at *
  have w1 : IntKind.i64.wrap ((l : Int) - (f : Int)) = (l : Int) - (f : Int) := IntWalk.i64_in _ (by omega)
  go_enter Try.func62, Try.ntmps62
  go_wp2
  go_region
  go_wp2
  go_ret
  exact ⟨rfl, rfl⟩
theorem left_any (h : Jr 85 w a p J) (ok : J.Ok n) (hn : n ≤ 4096) : Calls Try.prog 62 #[.pointer (some ⟨a, 0, none⟩)] w fun e w' => e = .returned (.int .i64 J.left) ∧ Below w.heap.size w w' :=
  (left_drew h ok hn).mono fun e w' ⟨he, hw⟩ => by subst hw; exact ⟨he, (Below.refl _ _).drew⟩

set_option maxRecDepth 100000 in
set_option maxHeartbeats 400000 in
theorem behind_drew (i : Nat) (h : Jr 85 w a p J) (ok : J.Ok n) (hn : n ≤ 4096) (hi : J.full + i ≤ J.log) :
    Calls Try.prog 67 #[.pointer (some ⟨a, 0, none⟩), .int .i64 i] w fun e w' => e = .returned (.int .i64 (J.pos i)) ∧ w' = w.drew := by
  have c3 := h.c3; have c4 := h.c4; have c7 := h.c7; clear h
  have h1 := ok.l1; have h2 := ok.fu; have h3 := ok.pl
  unfold JS.pos
  have hs := pos_split J.p J.full i J.log h3 hi
  clear ok
  generalize J.log = l at *
  generalize J.full = f at *
  generalize J.p = q at *
  have w1 : IntKind.i64.wrap ((q : Int) + (f : Int)) = (q : Int) + (f : Int) := IntWalk.i64_in _ (by omega)
  have w2 : IntKind.i64.wrap ((q : Int) + (f : Int) + (i : Int)) = (q : Int) + (f : Int) + (i : Int) := IntWalk.i64_in _ (by omega)
  rcases hs with ⟨hlt, e⟩ | ⟨hlt, e⟩
  · have e' : (((2 + (q + f + i) % l : Nat)) : Int) = 2 + ((q : Int) + (f : Int) + (i : Int)) := by rw [e]; omega
    rw [e']
    have hlt' : ¬ (l : Int) ≤ (q : Int) + (f : Int) + (i : Int) := by omega
    have w3 : IntKind.i64.wrap (2 + ((q : Int) + (f : Int) + (i : Int))) = 2 + ((q : Int) + (f : Int) + (i : Int)) := IntWalk.i64_in _ (by omega)
    clear e e'
    go_enter Try.func67, Try.ntmps67
    go_wp2
    go_region
    go_wp2
    go_ret
    exact ⟨rfl, rfl⟩
  · have e' : (((2 + (q + f + i) % l : Nat)) : Int) = 2 + ((q : Int) + (f : Int) + (i : Int) - (l : Int)) := by rw [e]; omega
    rw [e']
    have hlt' : (l : Int) ≤ (q : Int) + (f : Int) + (i : Int) := by omega
    have w3 : IntKind.i64.wrap ((q : Int) + (f : Int) + (i : Int) - (l : Int)) = (q : Int) + (f : Int) + (i : Int) - (l : Int) := IntWalk.i64_in _ (by omega)
    have w4 : IntKind.i64.wrap (2 + ((q : Int) + (f : Int) + (i : Int) - (l : Int))) = 2 + ((q : Int) + (f : Int) + (i : Int) - (l : Int)) := IntWalk.i64_in _ (by omega)
    clear e e'
    go_enter Try.func67, Try.ntmps67
    go_wp2
    go_region
    go_wp2
    go_ret
    exact ⟨rfl, rfl⟩
theorem behind_any (i : Nat) (h : Jr 85 w a p J) (ok : J.Ok n) (hn : n ≤ 4096) (hi : J.full + i ≤ J.log) :
    Calls Try.prog 67 #[.pointer (some ⟨a, 0, none⟩), .int .i64 i] w fun e w' => e = .returned (.int .i64 (J.pos i)) ∧ Below w.heap.size w w' :=
  (behind_drew i h ok hn hi).mono fun e w' ⟨he, hw⟩ => by subst hw; exact ⟨he, (Below.refl _ _).drew⟩

theorem Jr.put {t : TypeId} {J' : JS} {i : Nat} {v : Value} (h : Jr t w a p J) (hc : (JCells p J).setIfInBounds i v = JCells p J') : Jr t (w.setCell ⟨a, i, none⟩ v) a p J' := by
  unfold Jr; rw [heap_setCell_at h, hc]

set_option maxRecDepth 100000 in
set_option maxHeartbeats 400000 in
theorem grow_any (m : Nat) (h : Jr 85 w a p J) (ok : J.Ok n) (hn : n ≤ 4096) (hm : m ≤ 5000) :
    Calls Try.prog 77 #[.pointer (some ⟨a, 0, none⟩), .int .i64 m] w fun e w' => e = .returned (.tuple #[]) ∧ Jr 85 w' a p (J.grow m) ∧ Only (fun k => k = a) w w' ∧ w'.heap.size = w.heap.size := by
  have c6 := h.c6; have f6 := h.f 6; have c7 := h.c7; have f7 := h.f 7
  have h1 := ok.l1; have h2 := ok.fu
  obtain ⟨x, hx⟩ : ∃ x : Nat, x = (J.next + 1) % 18446744073709551616 := ⟨_, rfl⟩
  have wn : IntKind.u64.wrap ((J.next : Int) + 1) = (x : Int) := by rw [hx]; simp [IntKind.wrap, IntKind.bits, IntKind.signed]
  have hj : Hid (Jr 85 ((w.setCell ⟨a, 6, none⟩ (.int .u64 x)).setCell ⟨a, 7, none⟩ (.int .i64 ((J.full : Int) + (m : Int)))) a p (J.grow m)) := by
    have h1 := h.put (J' := { J with next := x }) (i := 6) (v := .int .u64 x) rfl
    exact h1.put (by unfold JS.grow; rw [← hx]; simp [JCells])
  have HX := Lib.hid hx; clear hx
  have wf : IntKind.i64.wrap ((J.full : Int) + (m : Int)) = (J.full : Int) + (m : Int) := IntWalk.i64_in _ (by omega)
  clear ok h
  generalize J.next = nx at *
  generalize J.full = fu at *
  go_enter Try.func77, Try.ntmps77
  go_wp2
  go_end0
  exact ⟨rfl, hj.out, ((Only.refl (fun k => k = a) w).setCell (p := ⟨a, 6, none⟩) (fun _ => rfl) _).setCell (p := ⟨a, 7, none⟩) (fun _ => rfl) _, by simp [World.setCell]⟩

set_option maxRecDepth 100000 in
set_option maxHeartbeats 400000 in
theorem fits_any (log : Int) (b : Nat) (hb : b ≤ 4096) : Calls Try.prog 54 #[.int .i64 log, .int .i64 b] w fun e w' => e = .returned (.bool (decide (50 ≤ log ∧ log ≤ (b : Int) - 3))) ∧ w = w' := by
  by_cases h : 50 ≤ log
  · by_cases h2 : log ≤ (b : Int) - 3
    · have e : decide (50 ≤ log ∧ log ≤ (b : Int) - 3) = true := by simp [h, h2]
      rw [e]
      have w1 : IntKind.i64.wrap ((b : Int) - 2) = (b : Int) - 2 := IntWalk.i64_in _ (by omega)
      have w2 : IntKind.i64.wrap ((b : Int) - 2 - 1) = (b : Int) - 2 - 1 := IntWalk.i64_in _ (by omega)
      have h3 : log ≤ (b : Int) - 2 - 1 := by omega
      clear e h2
      go_enter Try.func54, Try.ntmps54
      go_wp2
      go_ret
      exact ⟨rfl, rfl⟩
    · have e : decide (50 ≤ log ∧ log ≤ (b : Int) - 3) = false := by simp; omega
      rw [e]
      have w1 : IntKind.i64.wrap ((b : Int) - 2) = (b : Int) - 2 := IntWalk.i64_in _ (by omega)
      have w2 : IntKind.i64.wrap ((b : Int) - 2 - 1) = (b : Int) - 2 - 1 := IntWalk.i64_in _ (by omega)
      have h3 : ¬ log ≤ (b : Int) - 2 - 1 := by omega
      clear e h2
      go_enter Try.func54, Try.ntmps54
      go_wp2
      go_ret
      exact ⟨rfl, rfl⟩
  · have e : decide (50 ≤ log ∧ log ≤ (b : Int) - 3) = false := by simp; omega
    rw [e]
    clear e
    go_enter Try.func54, Try.ntmps54
    go_wp2
    go_ret
    exact ⟨rfl, rfl⟩
end
end Go.Proofs.Ytodfcbpimglhdaa
/- What check answers: why writes cannot be committed. -/
namespace Go.Proofs.Ytodfcbpimglhdaa
open Go.RowKit
open Fr (SlW WritesAt)

section
variable {S : Nat → Prop} {w w' : World} {a p : Nat} {J : JS} {D : DevS} {v : Value} {L : List (Int × ByteArray)}

set_option maxRecDepth 100000 in
set_option maxHeartbeats 1000000 in
theorem jcheck_many (ao : Option Addr) (n c : Nat) (w : World) (h : n = 0 ∨ 48 < n) (hm : n ≤ 1000) :
    Calls Try.prog 60 #[.pointer (some ⟨a, 0, none⟩), .slice ao n c] w fun e w' => e = .returned (.int .i64 6) ∧ Below w.heap.size w w' := by
  rcases h with rfl | h
  · go_enter Try.func60, Try.ntmps60
    go_wp2
    go_ret
    exact ⟨rfl, Below.refl _ _⟩
  · have h0 : ((n : Int) == 0) = false := beq_eq_false_iff_ne.2 (by omega)
    have h1 : (48 : Int) < (n : Int) := by omega
    go_enter Try.func60, Try.ntmps60
    go_wp2
    go_ret
    exact ⟨rfl, Below.refl _ _⟩

set_option maxRecDepth 100000 in
set_option maxHeartbeats 1000000 in
theorem jcheck_some (b off c : Nat) (hj : Jr 85 w a p J) (hd : Stands S w p D) (ok : J.Ok D.disk.length) (h1 : 1 ≤ L.length) (h2 : L.length ≤ 48) (hs : ∀ x ∈ L, x.2.size ≤ maxLen) (hb : b < w.heap.size) (hc : WritesAt w b off L) :
    Calls Try.prog 60 #[.pointer (some ⟨a, 0, none⟩), .slice (some ⟨b, off, none⟩) L.length c] w fun e w' => e = .returned (.int .i64 ((J.chkL D.disk.length L : Nat) : Int)) ∧ Below w.heap.size w w' := by
  have HC := Lib.hid hc; clear hc
  have HS := Lib.hid hs; clear hs
  have hnd := hd.ok.few
  have hlog : J.log ≤ 4096 := by have := ok.l1; omega
  have CH : Hid (∀ W, Below w.heap.size w W → Calls Try.prog 21 #[.pointer (some ⟨a, 0, none⟩)] W fun e w' => e = .returned (.int .i64 J.home) ∧ W = w') := fun W hW => home_any (hj.below hW) hlog
  have CB : Hid (∀ W, Below w.heap.size w W → Calls Try.prog 38 #[.pointer (some ⟨p, 0, none⟩)] W fun e w' => e = .returned (.int .i64 D.disk.length) ∧ W = w') := fun W hW => blocks_any (hd.below hW)
  have HJ := Lib.hid hj; clear hj
  clear hd ok
  obtain ⟨nd, hnd'⟩ : ∃ n, D.disk.length = n := ⟨_, rfl⟩
  rw [hnd'] at CB hnd ⊢
  clear hnd'
  obtain ⟨n, hn⟩ : ∃ n, L.length = n := ⟨_, rfl⟩
  rw [hn] at h1 h2 ⊢
  have HN := Lib.hid hn; clear hn
  have h0 : ((n : Int) == 0) = false := beq_eq_false_iff_ne.2 (by omega)
  have h3 : ¬ (48 : Int) < (n : Int) := by omega
  have hho : J.home ≤ 4100 := by unfold JS.home; omega
  go_enter Try.func60, Try.ntmps60
  go_wp2
  go_loopw [17] (fun i wr => ∃ k : Nat, k ≤ n ∧ i = .int .i64 k ∧ Hid (J.chkL nd L = J.chkL nd (L.drop k)) ∧ Hid (Below w.heap.size w wr)) (fun i _ => n - (intOf i).toNat)
  case atStart => exact ⟨0, Nat.zero_le _, rfl, rfl, Below.refl _ _⟩
  case round =>
    obtain ⟨k, hk, rfl, HK, HB⟩ := hrel
    have hbr := HB.out.size
    by_cases hlt : k < n
    · have hkL : k < L.length := by rw [HN.out]; exact hlt
      obtain ⟨c0, c1⟩ := (HC.out.below HB.out hb) k hkL
      have hsz := HS.out L[k] (List.getElem_mem hkL)
      unfold maxLen at hsz
      have ca := (HJ.out.below HB.out).c0
      have hal := (HJ.out.below HB.out).lt
      obtain ⟨X, hX⟩ : ∃ X, wr.alloc (.cells #[.int .i64 L[k].1, .string L[k].2] 71) = X := ⟨_, rfl⟩
      have hXb : Below wr.heap.size wr X := by rw [← hX]; exact (Below.refl _ _).alloc (Nat.le_refl _) _
      have hXh : X.heap[wr.heap.size]? = some (.cells #[.int .i64 L[k].1, .string L[k].2] 71 (0, 0)) := by rw [← hX, heap_alloc_new]
      have x0 : X.cell? ⟨wr.heap.size, 0, none⟩ = some (.int .i64 L[k].1) := by rw [cell_at hXh]; rfl
      have x1 : X.cell? ⟨wr.heap.size, 1, none⟩ = some (.string L[k].2) := by rw [cell_at hXh]; rfl
      have xa : X.cell? ⟨a, 0, none⟩ = some (.pointer (some ⟨p, 0, none⟩)) := (hXb.cell (p := ⟨a, 0, none⟩) hal).trans ca
      have HXW : Hid (Below w.heap.size w X) := HB.out.trans (hXb.mono hbr)
      have HX := Lib.hid hX; clear hX hXb hXh ca
      by_cases hx : J.chk1 nd L[k] = 0
      · obtain ⟨g0, g1, g2⟩ := (J.chk1_ok nd _).1 hx
        have HK2 : Hid (J.chkL nd L = J.chkL nd (L.drop (k + 1))) := by show _ = _; rw [HK.out, J.chkL_drop nd L k hkL hx]
        clear hx
        generalize L[k] = x at *
        obtain ⟨xb, xd⟩ := x
        simp only at c0 c1 x0 x1 g0 g1 g2 hsz HX
        have hne : ((xd.size : Int) != 256) = false := by simp; omega
        have d1 : decide (xb < (J.home : Int)) = false := decide_eq_false (by omega)
        have d2 : decide ((nd : Int) ≤ xb) = false := decide_eq_false (by omega)
        have d1' : ¬ xb < (J.home : Int) := by omega
        have d2' : ¬ (nd : Int) ≤ xb := by omega
        generalize J.home = ho at *
        go_wp2_with fail
        rw [HX.out]
        go_region_held3 (fun W => W.cell? ⟨a, 0, none⟩ = some (.pointer (some ⟨p, 0, none⟩)) ∧ W.cell? ⟨wr.heap.size, 0, none⟩ = some (.int .i64 xb))
          (first | exact ⟨xa, x0⟩ | assumption)
          (first | (go_at_call 21; refine (CH.out _ ?_).mono ?_; exact HXW.out.drew; rintro e w' ⟨rfl, rfl⟩) | (go_at_call 38; refine (CB.out _ ?_).mono ?_; exact HXW.out.drew; rintro e w' ⟨rfl, rfl⟩))
        go_wp2
        go_roundw
        case rel => exact ⟨k + 1, by omega, by go_num, HK2, HXW.out.drew⟩
        case measure => simp [intOf]; omega
      · have HE := Lib.hid (show J.chkL nd L = J.chk1 nd L[k] by rw [HK.out, J.chkL_at nd L k hkL hx])
        generalize L[k] = x at *
        obtain ⟨xb, xd⟩ := x
        simp only at c0 c1 x0 x1 hsz HX
        unfold JS.chk1 at hx HE
        simp only at hx HE
        by_cases hr : xb < (J.home : Int) ∨ (nd : Int) ≤ xb
        · rw [if_pos hr] at HE
          clear hx
          generalize J.home = ho at *
          by_cases hr1 : xb < (ho : Int)
          · have d1 : decide (xb < (ho : Int)) = true := decide_eq_true hr1
            clear hr
            go_wp2_with fail
            rw [HX.out]
            go_quiet ((go_at_call 21; refine Calls.quiet_of_same (((CH.out _ ?_).mono (fun e w' h => ⟨h.1, h.2.symm⟩)));  exact ⟨HXW.out.os, HXW.out.tape, HXW.out.output, HXW.out.size, HXW.out.block⟩))
            go_wp2
            go_ret
            exact ⟨by rw [HE.out]; rfl, Fr.below_drewN HXW.out _⟩
          · have hr2 : (nd : Int) ≤ xb := by omega
            have d1 : decide (xb < (ho : Int)) = false := decide_eq_false hr1
            have d2 : decide ((nd : Int) ≤ xb) = true := decide_eq_true hr2
            clear hr
            go_wp2_with fail
            rw [HX.out]
            go_region_held3 (fun W => W.cell? ⟨a, 0, none⟩ = some (.pointer (some ⟨p, 0, none⟩)) ∧ W.cell? ⟨wr.heap.size, 0, none⟩ = some (.int .i64 xb))
              (first | exact ⟨xa, x0⟩ | assumption)
              (first | (go_at_call 21; refine (CH.out _ ?_).mono ?_; exact HXW.out.drew; rintro e w' ⟨rfl, rfl⟩) | (go_at_call 38; refine (CB.out _ ?_).mono ?_; exact HXW.out.drew; rintro e w' ⟨rfl, rfl⟩))
            go_wp2
            go_ret
            exact ⟨by rw [HE.out]; rfl, HXW.out.drew⟩
        · rw [if_neg hr] at hx HE
          have d1 : decide (xb < (J.home : Int)) = false := decide_eq_false (by omega)
          have d2 : decide ((nd : Int) ≤ xb) = false := decide_eq_false (by omega)
          have d1' : ¬ xb < (J.home : Int) := by omega
          have d2' : ¬ (nd : Int) ≤ xb := by omega
          clear hr
          by_cases hz : xd.size ≠ 256
          · rw [if_pos hz] at HE
            clear hx
            have hne : ((xd.size : Int) != 256) = true := by simp; omega
            clear hz
            generalize J.home = ho at *
            go_wp2_with fail
            rw [HX.out]
            go_region_held3 (fun W => W.cell? ⟨a, 0, none⟩ = some (.pointer (some ⟨p, 0, none⟩)) ∧ W.cell? ⟨wr.heap.size, 0, none⟩ = some (.int .i64 xb))
              (first | exact ⟨xa, x0⟩ | assumption)
              (first | (go_at_call 21; refine (CH.out _ ?_).mono ?_; exact HXW.out.drew; rintro e w' ⟨rfl, rfl⟩) | (go_at_call 38; refine (CB.out _ ?_).mono ?_; exact HXW.out.drew; rintro e w' ⟨rfl, rfl⟩))
            go_wp2
            go_ret
            exact ⟨by rw [HE.out]; rfl, HXW.out.drew⟩
          · rw [if_neg hz] at hx; exact absurd rfl hx
    · have hkn : k = n := by omega
      subst hkn
      have HE : Hid (J.chkL nd L = 0) := by show _ = _; rw [HK.out, List.drop_of_length_le (by rw [HN.out]; exact Nat.le_refl _)]; rfl
      go_wp2
      go_ret
      exact ⟨by rw [HE.out]; rfl, HB.out⟩

theorem jcheck_any (hj : Jr 85 w a p J) (hd : Stands S w p D) (ok : J.Ok D.disk.length) (hl : L.length ≤ 1000) (hs : ∀ x ∈ L, x.2.size ≤ maxLen) (h : SlW w v L) :
    Calls Try.prog 60 #[.pointer (some ⟨a, 0, none⟩), v] w fun e w' => e = .returned (.int .i64 ((J.chk D.disk.length L : Nat) : Int)) ∧ Below w.heap.size w w' := by
  unfold JS.chk
  by_cases h0 : L.length = 0 ∨ 48 < L.length
  · rw [if_pos h0]
    obtain ⟨ao, c, rfl, _⟩ := h
    exact jcheck_many ao _ c w h0 hl
  · rw [if_neg h0]
    obtain ⟨b, off, c, rfl, _, hb, hc⟩ := h.here (by omega)
    exact jcheck_some b off c hj hd ok (by omega) (by omega) hs hb hc
end
end Go.Proofs.Ytodfcbpimglhdaa
/- What writeAll and settle answer and leave behind, for every journal over every device. -/
namespace Go.Proofs.Ytodfcbpimglhdaa
open Go.RowKit
open Fr (SlW WritesAt)

section
variable {S S1 T : Nat → Prop} {w w1 w2 w' : World} {a p : Nat} {J : JS} {D D1 D2 : DevS} {v : Value} {L : List (Int × ByteArray)}

/-- A slice that does not lie in the blocks of S. -/
def Outs (S : Nat → Prop) (v : Value) : Prop := ∀ g off n c, v = .slice (some ⟨g, off, none⟩) n c → ¬ S g
theorem Outs.mono (h : Outs S v) (hs : ∀ k, T k → S k) : Outs T v := fun g off n c hv ht => h g off n c hv (hs g ht)
theorem SlW.only (h : SlW w v L) (ho : Only T w w') (hT : Outs T v) : SlW w' v L := by
  obtain ⟨ao, c, hv, hc, h⟩ := h
  refine ⟨ao, c, hv, hc, ?_⟩
  rcases h with h | ⟨b, off, e, hlt, h⟩
  · exact .inl h
  · subst e
    have hnt := hT b off _ _ hv
    refine .inr ⟨b, off, rfl, Nat.lt_of_lt_of_le hlt ho.size, fun j hj => ⟨?_, ?_⟩⟩
    · rw [ho.cell (p := ⟨b, off + j * 2, none⟩) hlt hnt]; exact (h j hj).1
    · rw [ho.cell (p := ⟨b, off + j * 2 + 1, none⟩) hlt hnt]; exact (h j hj).2
theorem Outs.of_lt (h : SlW w v L) (hs : ∀ k, S k → w.heap.size ≤ k) (hl : L ≠ []) : Outs S v := by
  intro g off n c hv hg
  obtain ⟨ao, c', hv', hc, h⟩ := h
  rcases h with h | ⟨b, off', e, hlt, h⟩
  · exact hl h
  · subst e; rw [hv'] at hv; cases hv; have := hs _ hg; omega

theorem Leaves.next (hS1 : ∀ k, S1 k → S k ∨ w.heap.size ≤ k) (ho : Only S w w1) (h : Leaves S1 w1 w2 p D2) : Leaves S w w2 p D2 := by
  obtain ⟨S2, hS2, hs, ho2⟩ := h
  refine ⟨S2, fun k hk => ?_, hs, ho.trans ho2 (fun i hi h1 => ?_)⟩
  · rcases hS2 k hk with h | h
    · exact hS1 k h
    · exact .inr (Nat.le_trans ho.size h)
  · rcases hS1 i h1 with h | h
    · exact h
    · omega
theorem Leaves.below (h : Leaves S w w1 p D1) (hb : Below w1.heap.size w1 w2) : Leaves S w w2 p D1 := by
  obtain ⟨S2, hS2, hs, ho2⟩ := h
  exact ⟨S2, hS2, hs.below hb, ho2.trans (Only.of_below (fun _ => False) hb (Nat.le_refl _)) (fun _ _ f => f.elim)⟩
theorem Leaves.from (hb : Below w.heap.size w w1) (h : Leaves S w1 w2 p D2) : Leaves S w w2 p D2 :=
  Leaves.next (fun _ h => .inl h) (Only.of_below S hb (Nat.le_refl _)) h
theorem Leaves.only (h : Leaves S w w1 p D1) : Only S w w1 := by obtain ⟨_, _, _, h⟩ := h; exact h
theorem Leaves.ok (h : Leaves S w w1 p D1) : D1.Ok := by obtain ⟨_, _, h, _⟩ := h; exact h.ok

theorem wrs_stop (D : DevS) (L : List (Int × ByteArray)) (k : Nat) (h : k < L.length) (h0 : (D.wrs (L.take k)).1 = 0) (he : ((D.wrs (L.take k)).2.wr L[k].1 L[k].2).1 ≠ 0) : D.wrs L = (D.wrs (L.take k)).2.wr L[k].1 L[k].2 := by
  have e1 : D.wrs (L.take (k + 1)) = (D.wrs (L.take k)).2.wr L[k].1 L[k].2 := by rw [take_snocL L k h, D.wrs_snoc _ _ h0]
  conv => lhs; rw [← List.take_append_drop (k + 1) L]
  rw [D.wrs_err _ _ (by rw [e1]; exact he), e1]
theorem wrs_goes (D : DevS) (L : List (Int × ByteArray)) (k : Nat) (h : k < L.length) (h0 : (D.wrs (L.take k)).1 = 0) (he : ((D.wrs (L.take k)).2.wr L[k].1 L[k].2).1 = 0) : (D.wrs (L.take (k + 1))).1 = 0 ∧ (D.wrs (L.take (k + 1))).2 = ((D.wrs (L.take k)).2.wr L[k].1 L[k].2).2 := by
  have e1 : D.wrs (L.take (k + 1)) = (D.wrs (L.take k)).2.wr L[k].1 L[k].2 := by rw [take_snocL L k h, D.wrs_snoc _ _ h0]
  rw [e1]; exact ⟨he, rfl⟩

set_option maxRecDepth 100000 in
set_option maxHeartbeats 1000000 in
theorem writeAll_some (b off c : Nat) (hj : Jr 85 w a p J) (hd : Stands S w p D) (ha : ¬ S a) (hl : L.length ≤ 10000) (hp : D.pend.length ≤ 900000) (hb : b < w.heap.size) (hc : WritesAt w b off L) (hs : ¬ S b) :
    Calls Try.prog 64 #[.pointer (some ⟨a, 0, none⟩), .slice (some ⟨b, off, none⟩) L.length c] w fun e w' => e = .returned (.int .i64 (D.wrs L).1) ∧ Leaves S w w' p (D.wrs L).2 := by
  have HC := Lib.hid hc; clear hc
  have HJ := Lib.hid hj; clear hj
  have HS := Lib.hid hs; clear hs
  have HA := Lib.hid ha; clear ha
  obtain ⟨n, hn⟩ : ∃ n, L.length = n := ⟨_, rfl⟩
  rw [hn] at hl ⊢
  have HN := Lib.hid hn; clear hn
  have HD := Lib.hid hd; clear hd
  go_enter Try.func64, Try.ntmps64
  go_wp2
  go_loopw [10] (fun i wr => ∃ k : Nat, k ≤ n ∧ i = .int .i64 k ∧ Hid ((D.wrs (L.take k)).1 = 0) ∧ Hid (Leaves S w wr p (D.wrs (L.take k)).2)) (fun i _ => n - (intOf i).toNat)
  case atStart => exact ⟨0, Nat.zero_le _, rfl, rfl, .mk HD.out (Only.refl _ _)⟩
  case round =>
    obtain ⟨k, hk, rfl, HK, HL⟩ := hrel
    by_cases hlt : k < n
    · have hkL : k < L.length := by rw [HN.out]; exact hlt
      have HO := HL.out.only
      have hbr := HO.size
      obtain ⟨S1, hS1, hs1, ho1⟩ := HL.out
      have hn1 : ∀ g, g < w.heap.size → ¬ S g → ¬ S1 g := fun g hg hs h => by rcases hS1 g h with h | h; exact hs h; omega
      have haw := HJ.out.lt
      have c0 : wr.cell? ⟨a, 0, none⟩ = some (.pointer (some ⟨p, 0, none⟩)) := (HO.cell (p := ⟨a, 0, none⟩) haw HA.out).trans HJ.out.c0
      obtain ⟨e0, e1⟩ := HC.out k hkL
      have d0 : wr.cell? ⟨b, off + k * 2, none⟩ = some (.int .i64 L[k].1) := (HO.cell (p := ⟨b, off + k * 2, none⟩) hb HS.out).trans e0
      have d1 : wr.cell? ⟨b, off + k * 2 + 1, none⟩ = some (.string L[k].2) := (HO.cell (p := ⟨b, off + k * 2 + 1, none⟩) hb HS.out).trans e1
      have hbb : b < wr.heap.size := Nat.lt_of_lt_of_le hb hbr
      obtain ⟨X, hX⟩ : ∃ X, wr.alloc (.cells #[.int .i64 L[k].1, .string L[k].2] 71) = X := ⟨_, rfl⟩
      have hXb : Below wr.heap.size wr X := by rw [← hX]; exact (Below.refl _ _).alloc (Nat.le_refl _) _
      have hXz : X.heap.size = wr.heap.size + 1 := by rw [← hX]; simp
      have hXh : X.heap[wr.heap.size]? = some (.cells #[.int .i64 L[k].1, .string L[k].2] 71 (0, 0)) := by rw [← hX, heap_alloc_new]
      have x0 : X.cell? ⟨wr.heap.size, 0, none⟩ = some (.int .i64 L[k].1) := by rw [cell_at hXh]; rfl
      have x1 : X.cell? ⟨wr.heap.size, 1, none⟩ = some (.string L[k].2) := by rw [cell_at hXh]; rfl
      have xa : X.cell? ⟨a, 0, none⟩ = some (.pointer (some ⟨p, 0, none⟩)) := (hXb.cell (p := ⟨a, 0, none⟩) (Nat.lt_of_lt_of_le haw hbr)).trans c0
      have hsX : Stands S1 X p (D.wrs (L.take k)).2 := hs1.below hXb
      have hpl : (D.wrs (L.take k)).2.pend.length ≤ 1000000 := by have := D.wrs_len (L.take k); rw [List.length_take] at this; omega
      have HW : Hid (∀ W, Below X.heap.size X W → Calls Try.prog 13 #[.pointer (some ⟨p, 0, none⟩), .int .i64 L[k].1, .string L[k].2] W fun e w' => e = .returned (.int .i64 ((D.wrs (L.take k)).2.wr L[k].1 L[k].2).1) ∧ Leaves S1 X w' p ((D.wrs (L.take k)).2.wr L[k].1 L[k].2).2) := by
        intro W hW
        exact (write_any L[k].1 L[k].2 hpl (hsX.below hW)).mono fun e w' ⟨he, hv⟩ => ⟨he, Leaves.from hW hv⟩
      have HKeep : Hid (∀ w' D', Leaves S1 X w' p D' → w'.cell? ⟨a, 0, none⟩ = some (.pointer (some ⟨p, 0, none⟩)) ∧ w'.cell? ⟨wr.heap.size, 0, none⟩ = some (.int .i64 L[k].1) ∧ w'.cell? ⟨wr.heap.size, 1, none⟩ = some (.string L[k].2)) := by
        intro w' D' h
        have h1 := h.only
        have na : ¬ S1 a := hn1 a haw HA.out
        have nx : ¬ S1 wr.heap.size := fun h => by have := hs1.lt _ h; omega
        exact ⟨(h1.cell (p := ⟨a, 0, none⟩) (by rw [hXz]; show a < _; omega) na).trans xa, (h1.cell (p := ⟨wr.heap.size, 0, none⟩) (by rw [hXz]; exact Nat.lt_succ_self _) nx).trans x0, (h1.cell (p := ⟨wr.heap.size, 1, none⟩) (by rw [hXz]; exact Nat.lt_succ_self _) nx).trans x1⟩
      have HLv : Hid (∀ w' D', Leaves S1 X w' p D' → Leaves S w w' p D') := fun w' D' h => Leaves.next hS1 ho1 (Leaves.from hXb h)
      have HSt := Lib.hid (wrs_stop D L k hkL HK.out)
      have HGo := Lib.hid (wrs_goes D L k hkL HK.out)
      clear hs1 ho1 hn1 HO e0 e1 c0 hXh hsX hpl hXb hXz haw
      have HX := Lib.hid hX; clear hX
      generalize (D.wrs (L.take k)).2.wr L[k].1 L[k].2 = R at *
      generalize L[k] = x at *
      obtain ⟨xb, xd⟩ := x
      obtain ⟨er, DR⟩ := R
      simp only at d0 d1 HX x0 x1 HW HKeep HSt HGo
      by_cases he : er = 0
      · have he' : (er != 0) = false := by simp [he]
        obtain ⟨g0, g1⟩ := HGo.out he
        have HG0 := Lib.hid g0; have HG1 := Lib.hid g1; clear g0 g1
        go_wp2_with fail
        rw [HX.out]
        go_region_held3 (fun W => W.cell? ⟨a, 0, none⟩ = some (.pointer (some ⟨p, 0, none⟩)) ∧ W.cell? ⟨wr.heap.size, 0, none⟩ = some (.int .i64 xb) ∧ W.cell? ⟨wr.heap.size, 1, none⟩ = some (.string xd))
          (first | exact ⟨xa, x0, x1⟩ | exact HKeep.out _ _ (by assumption))
          (first | (go_at_call 13; refine (HW.out _ ((Below.refl _ _).drew)).mono ?_; rintro e w' ⟨rfl, hlv⟩))
        have HF := Lib.hid (HLv.out _ _ hlv)
        clear hlv
        go_wp2
        go_roundw
        case rel => exact ⟨k + 1, by omega, by go_num, HG0, by rw [HG1.out]; exact HF.out⟩
        case measure => simp [intOf]; omega
      · have he' : (er != 0) = true := by simp [he]
        have HR := Lib.hid (HSt.out he)
        go_wp2_with fail
        rw [HX.out]
        go_region_held3 (fun W => W.cell? ⟨a, 0, none⟩ = some (.pointer (some ⟨p, 0, none⟩)) ∧ W.cell? ⟨wr.heap.size, 0, none⟩ = some (.int .i64 xb) ∧ W.cell? ⟨wr.heap.size, 1, none⟩ = some (.string xd))
          (first | exact ⟨xa, x0, x1⟩ | exact HKeep.out _ _ (by assumption))
          (first | (go_at_call 13; refine (HW.out _ ((Below.refl _ _).drew)).mono ?_; rintro e w' ⟨rfl, hlv⟩))
        have HF := Lib.hid (HLv.out _ _ hlv)
        clear hlv
        go_wp2
        go_ret
        exact ⟨by rw [HR.out]; rfl, by rw [HR.out]; exact HF.out⟩
    · have hkn : k = n := by omega
      subst hkn
      have e : L.take k = L := List.take_of_length_le (by rw [HN.out]; exact Nat.le_refl _)
      have HE : Hid ((D.wrs L).1 = 0) := by show _ = _; rw [← e]; exact HK.out
      have HF : Hid (Leaves S w wr p (D.wrs L).2) := by have := HL.out; rw [e] at this; exact this
      clear e
      go_wp2
      go_ret
      exact ⟨by rw [HE.out]; rfl, HF.out⟩

set_option maxRecDepth 100000 in
set_option maxHeartbeats 400000 in
theorem writeAll_none (ao : Option Addr) (c : Nat) :
    Calls Try.prog 64 #[.pointer (some ⟨a, 0, none⟩), .slice ao 0 c] w fun e w' => e = .returned (.int .i64 0) ∧ w = w' := by
  go_enter Try.func64, Try.ntmps64
  go_wp2
  go_loopw [10] (fun i wr => i = .int .i64 0 ∧ wr = w) (fun _ _ => 0)
  case atStart => exact ⟨rfl, rfl⟩
  case round =>
    obtain ⟨rfl, rfl⟩ := hrel
    go_wp2
    go_ret
    exact ⟨rfl, rfl⟩

theorem writeAll_any (hj : Jr 85 w a p J) (hd : Stands S w p D) (ha : ¬ S a) (hl : L.length ≤ 10000) (hp : D.pend.length ≤ 900000) (h : SlW w v L) (hs : Outs S v) :
    Calls Try.prog 64 #[.pointer (some ⟨a, 0, none⟩), v] w fun e w' => e = .returned (.int .i64 (D.wrs L).1) ∧ Leaves S w w' p (D.wrs L).2 := by
  by_cases h0 : L = []
  · obtain ⟨ao, c, rfl, _⟩ := h
    subst h0
    exact (writeAll_none ao c).mono fun e w' ⟨he, hw⟩ => by subst hw; exact ⟨he, .mk hd (Only.refl _ _)⟩
  · obtain ⟨b, off, c, rfl, _, hb, hc⟩ := h.here (List.length_pos_iff.2 h0)
    exact writeAll_some b off c hj hd ha hl hp hb hc (hs b off _ _ rfl)

set_option maxRecDepth 100000 in
set_option maxHeartbeats 1000000 in
theorem jsettle_any (hj : Jr 85 w a p J) (hd : Stands S w p D) (ha : ¬ S a) (hl : L.length ≤ 10000) (hp : D.pend.length ≤ 900000) (h : SlW w v L) (hs : Outs S v) :
    Calls Try.prog 56 #[.pointer (some ⟨a, 0, none⟩), v] w fun e w' => e = .returned (.int .i64 (D.stl L).1) ∧ Leaves S w w' p (D.stl L).2 := by
  have HW := Lib.hid (writeAll_any hj hd ha hl hp h hs)
  have hpl : (D.wrs L).2.pend.length ≤ 1000000 := by have := D.wrs_len L; omega
  have HP := Lib.hid hpl; clear hpl
  have HJ := Lib.hid hj; clear hj
  have HA := Lib.hid ha; clear ha
  obtain ⟨ao, c, rfl, _⟩ := h
  have HE : Hid (D.stl L = if (D.wrs L).1 ≠ 0 then D.wrs L else (D.wrs L).2.fl) := rfl
  generalize L.length = n at *
  clear hd hs hl hp
  generalize D.stl L = Z at *
  generalize D.wrs L = R at *
  obtain ⟨er, DR⟩ := R
  simp only at HW HP HE
  by_cases he : er = 0
  · have he' : (er != 0) = false := by simp [he]
    rw [if_neg (by simpa using he)] at HE
    go_enter Try.func56, Try.ntmps56
    go_wp2_with fail
    refine HW.out.mono ?_
    rintro e w1 ⟨rfl, hv⟩
    have c0 : w1.cell? ⟨a, 0, none⟩ = some (.pointer (some ⟨p, 0, none⟩)) := (hv.only.cell (p := ⟨a, 0, none⟩) HJ.out.lt HA.out).trans HJ.out.c0
    obtain ⟨S1, hS1, hs1, ho1⟩ := hv
    have HF : Hid (Calls Try.prog 40 #[.pointer (some ⟨p, 0, none⟩)] w1 fun e w' => e = .returned (.int .i64 DR.fl.1) ∧ Leaves S w w' p DR.fl.2) :=
      (flush_any HP.out hs1).mono fun e w' ⟨he, h1, h2⟩ => ⟨he, Leaves.next hS1 ho1 (.mk h1 h2)⟩
    clear hS1 hs1 ho1
    go_wp2_with fail
    refine HF.out.mono ?_
    rintro e w2 ⟨rfl, hv⟩
    have HV := Lib.hid hv; clear hv
    go_wp2
    go_ret
    exact ⟨by rw [HE.out]; rfl, by rw [HE.out]; exact HV.out⟩
  · have he' : (er != 0) = true := by simp [he]
    rw [if_pos (by simpa using he)] at HE
    go_enter Try.func56, Try.ntmps56
    go_wp2_with fail
    refine HW.out.mono ?_
    rintro e w1 ⟨rfl, hv⟩
    have HV := Lib.hid hv; clear hv
    go_wp2
    go_ret
    exact ⟨by rw [HE.out]; rfl, by rw [HE.out]; exact HV.out⟩
end
end Go.Proofs.Ytodfcbpimglhdaa
/- What readHead and Head answer: what a head tells, or that it is none. -/
namespace Go.Proofs.Ytodfcbpimglhdaa.Fr
open Go.RowKit

theorem prefix_iff (l : List UInt8) : Lib.hasPrefix l cdxt = true ↔ l.take 4 = cdxt := by
  unfold Lib.hasPrefix
  rw [List.isPrefixOf_iff_prefix]
  constructor
  · intro h; obtain ⟨t, rfl⟩ := h; rfl
  · intro h; rw [← h]; exact List.take_prefix _ _
theorem suffix_iff (l : List UInt8) (hl : l.length = 256) : Lib.hasSuffix l cdxe = true ↔ l.drop 252 = cdxe := by
  unfold Lib.hasSuffix
  rw [List.isSuffixOf_iff_suffix]
  constructor
  · intro h
    obtain ⟨t, rfl⟩ := h
    have e : t.length = 252 := by rw [List.length_append] at hl; simp [cdxe] at hl; omega
    rw [← e, List.drop_left]
  · intro h; rw [← h]; exact List.drop_suffix _ _

theorem or64 (hi lo : Nat) (h1 : hi < 4294967296) (h2 : lo < 4294967296) : bits .or .u64 ((hi : Int) * 4294967296) (lo : Int) = ((lo + 4294967296 * hi : Nat) : Int) := by
  rw [show (hi : Int) * 4294967296 = ((hi * 4294967296 : Nat) : Int) by omega, u64_or_nat _ _ (by omega) (by omega), nat_join 32 _ _ (by omega) (by omega)]
  omega

theorem readHead_size (s : ByteArray) (w : World) (h : ((s.size : Int) != 256) = true) :
    Calls Try.prog 101 #[.string s] w fun e w' => e = .returned (.tuple #[.int .u64 0, .slice none 0 0, .bool false]) ∧ Below w.heap.size w w' := by
  go_enter Try.func101, Try.ntmps101
  go_wp2
  go_ret3
  exact ⟨rfl, Below.refl _ _⟩
theorem readHead_begin (s : ByteArray) (w : World) (h : ((s.size : Int) != 256) = false) (hp : Lib.hasPrefix s.data.toList cdxt = false) :
    Calls Try.prog 101 #[.string s] w fun e w' => e = .returned (.tuple #[.int .u64 0, .slice none 0 0, .bool false]) ∧ Below w.heap.size w w' := by
  have C := Lib.hid (Try.strings_HasPrefix s ⟨#[67, 68, 88, 84]⟩ w)
  rw [show (⟨#[67, 68, 88, 84]⟩ : ByteArray).data.toList = cdxt from rfl, hp] at C
  clear hp
  go_enter Try.func101, Try.ntmps101
  go_wp2_with fail
  refine C.out.mono ?_
  rintro e w' ⟨rfl, rfl⟩
  go_wp2
  go_ret3
  exact ⟨rfl, Below.refl _ _⟩
theorem readHead_end (s : ByteArray) (w : World) (hs : s.size ≤ 1000) (h : ((s.size : Int) != 256) = false) (hp : Lib.hasPrefix s.data.toList cdxt = true) (hq : Lib.hasSuffix s.data.toList cdxe = false) :
    Calls Try.prog 101 #[.string s] w fun e w' => e = .returned (.tuple #[.int .u64 0, .slice none 0 0, .bool false]) ∧ Below w.heap.size w w' := by
  have C := Lib.hid (Try.strings_HasPrefix s ⟨#[67, 68, 88, 84]⟩ w)
  have D := Lib.hid (Try.strings_HasSuffix s ⟨#[67, 68, 88, 69]⟩ w (by omega))
  rw [show (⟨#[67, 68, 88, 84]⟩ : ByteArray).data.toList = cdxt from rfl, hp] at C
  rw [show (⟨#[67, 68, 88, 69]⟩ : ByteArray).data.toList = cdxe from rfl, hq] at D
  clear hp hq
  go_enter Try.func101, Try.ntmps101
  go_wp2_with fail
  refine C.out.mono ?_
  rintro e w' ⟨rfl, rfl⟩
  go_wp2_with fail
  refine D.out.mono ?_
  rintro e w' ⟨rfl, rfl⟩
  go_wp2
  go_ret3
  exact ⟨rfl, Below.refl _ _⟩

set_option maxRecDepth 100000 in
set_option maxHeartbeats 2000000 in
theorem readHead_form (s : ByteArray) (l : List UInt8) (w : World) (R : Ending → World → Prop) (hl : s.data.toList = l) (hn : l.length = 256) (hp : Lib.hasPrefix l cdxt = true) (hq : Lib.hasSuffix l cdxe = true)
    (hno : ¬ (1 ≤ nmAt l 12 ∧ nmAt l 12 ≤ 48 ∧ takeB (nmAt l 12) 58 ((l.take 248).drop 16) = true) → ∀ w', Below w.heap.size w w' → R (.returned (.tuple #[.int .u64 0, .slice none 0 0, .bool false])) w')
    (hyes : 1 ≤ nmAt l 12 → nmAt l 12 ≤ 48 → takeB (nmAt l 12) 58 ((l.take 248).drop 16) = true → ∀ v w', OwnW w.heap.size w' v (takenL ((l.take 248).drop 16) (nmAt l 12)) → Below w.heap.size w w' → R (.returned (.tuple #[.int .u64 ((seqOf l : Nat) : Int), v, .bool true])) w') :
    Calls Try.prog 101 #[.string s] w R := by
  have hsz : s.size = 256 := by rw [← str_len, hl, hn]
  have C := Lib.hid (Try.strings_HasPrefix s ⟨#[67, 68, 88, 84]⟩ w)
  have D := Lib.hid (Try.strings_HasSuffix s ⟨#[67, 68, 88, 69]⟩ w (by omega))
  rw [show (⟨#[67, 68, 88, 84]⟩ : ByteArray).data.toList = cdxt from rfl, hl, hp] at C
  rw [show (⟨#[67, 68, 88, 69]⟩ : ByteArray).data.toList = cdxe from rfl, hl, hq] at D
  clear hp hq
  have HNO := Lib.hid hno; clear hno
  have HYES := Lib.hid hyes; clear hyes
  have h1 : ((s.size : Int) != 256) = false := by simp; omega
  have i1 : (248 : Int) ≤ (s.size : Int) := by omega
  have hq2 : (l.take 248).length = 248 := by rw [List.length_take]; omega
  obtain ⟨T1, hT1⟩ : ∃ T, s.extract 4 248 = T := ⟨_, rfl⟩
  have HT1 : Hid (T1 = bs ((l.take 248).drop 4)) := by show _ = _; rw [← hT1, ← bs_data s, hl, bs_ext]
  obtain ⟨T2, HT2⟩ : ∃ T2, Hid (T2 = bs ((l.take 248).drop (4 + 4))) := ⟨_, rfl⟩
  obtain ⟨T3, HT3⟩ : ∃ T3, Hid (T3 = bs ((l.take 248).drop (8 + 4))) := ⟨_, rfl⟩
  obtain ⟨T4, HT4⟩ : ∃ T4, Hid (T4 = bs ((l.take 248).drop (12 + 4))) := ⟨_, rfl⟩
  have F1 : Hid (∀ W, Calls Try.prog 93 #[.string T1] W fun e w' => e = .returned (.tuple #[.int .u32 ((nmAt l 4 : Nat) : Int), .string T2, .bool true]) ∧ Below W.heap.size W w') := fun W => by
    have := toFixed_at W HT1.out HT2.out (by omega) (by omega)
    rw [nmAt_take _ _ _ (by omega)] at this; exact this
  have F2 : Hid (∀ W, Calls Try.prog 93 #[.string T2] W fun e w' => e = .returned (.tuple #[.int .u32 ((nmAt l 8 : Nat) : Int), .string T3, .bool true]) ∧ Below W.heap.size W w') := fun W => by
    have := toFixed_at (k := 8) W HT2.out HT3.out (by omega) (by omega)
    rw [nmAt_take _ _ _ (by omega)] at this; exact this
  have F3 : Hid (∀ W, Calls Try.prog 93 #[.string T3] W fun e w' => e = .returned (.tuple #[.int .u32 ((nmAt l 12 : Nat) : Int), .string T4, .bool true]) ∧ Below W.heap.size W w') := fun W => by
    have := toFixed_at (k := 12) W HT3.out HT4.out (by omega) (by omega)
    rw [nmAt_take _ _ _ (by omega)] at this; exact this
  have x4 := nmAt_lt l 4
  have x8 := nmAt_lt l 8
  have HTK : Hid (∀ W R', nmAt l 12 ≤ 58 → (takeB (nmAt l 12) 58 ((l.take 248).drop 16) = false → ∀ v w', Below W.heap.size W w' → R' (.returned (.tuple #[v, .bool false])) w') → (takeB (nmAt l 12) 58 ((l.take 248).drop 16) = true → ∀ v w', OwnW W.heap.size w' v (takenL ((l.take 248).drop 16) (nmAt l 12)) → Below W.heap.size W w' → R' (.returned (.tuple #[v, .bool true])) w') → Calls Try.prog 104 #[.int .i64 ((nmAt l 12 : Nat) : Int), .string T4] W R') :=
    fun W R' h58 ha hb => take_any _ 58 _ T4 W R' h58 (by omega) (by rw [List.length_drop]; omega) HT4.out ha hb
  have HSEQ : Hid (seqOf l = nmAt l 4 + 4294967296 * nmAt l 8) := rfl
  have x12 := nmAt_lt l 12
  obtain ⟨lo, hlo⟩ : ∃ x, nmAt l 4 = x := ⟨_, rfl⟩
  obtain ⟨hi, hhi⟩ : ∃ x, nmAt l 8 = x := ⟨_, rfl⟩
  obtain ⟨n, hnn⟩ : ∃ x, nmAt l 12 = x := ⟨_, rfl⟩
  rw [hlo] at F1 x4 HSEQ
  rw [hhi] at F2 x8 HSEQ
  rw [hnn] at F3 HTK HNO HYES x12
  obtain ⟨sq, hsq⟩ : ∃ x, seqOf l = x := ⟨_, rfl⟩
  rw [hsq] at HSEQ HYES
  have HOR : Hid (bits .or .u64 ((hi : Int) * 4294967296) (lo : Int) = (sq : Int)) := by show _ = _; rw [HSEQ.out]; exact or64 hi lo x8 x4
  clear hlo hhi hnn hsq hl hq2
  go_enter Try.func101, Try.ntmps101
  go_wp2_with fail
  refine C.out.mono ?_
  rintro e w' ⟨rfl, rfl⟩
  go_wp2_with fail
  refine D.out.mono ?_
  rintro e w' ⟨rfl, rfl⟩
  clear C D
  go_wp2_with fail
  refine (F1.out _).mono ?_
  rintro e w1 ⟨rfl, hb1⟩
  have HB1 := Lib.hid hb1; clear hb1
  go_wp2_with fail
  refine (F2.out _).mono ?_
  rintro e w2 ⟨rfl, hb2⟩
  have HB2 := Lib.hid (HB1.out.trans (hb2.mono HB1.out.size)); clear hb2
  go_wp2_with fail
  refine (F3.out _).mono ?_
  rintro e w3 ⟨rfl, hb3⟩
  have HB3 := Lib.hid (HB2.out.trans (hb3.mono HB2.out.size)); clear hb3 HB1 HB2 F1 F2 F3
  by_cases hr : 1 ≤ n ∧ n ≤ 48
  · obtain ⟨hr1, hr2⟩ := hr
    have k1 : ¬ (n : Int) < 1 := by omega
    have k2 : ¬ (48 : Int) < (n : Int) := by omega
    go_wp2_with fail
    refine HTK.out _ _ (by omega) ?_ ?_
    · intro hf v w4 hb4
      have HB4 := Lib.hid (HB3.out.trans (hb4.mono HB3.out.size))
      have HF := Lib.hid hf
      clear hb4 hf
      go_wp2
      go_ret3
      exact HNO.out (fun hh => by rw [HF.out] at hh; exact absurd hh.2.2 (by decide)) _ HB4.out
    · intro hf v w4 ho4 hb4
      have HB4 := Lib.hid (HB3.out.trans (hb4.mono HB3.out.size))
      have HO4 := Lib.hid (ho4.mono HB3.out.size)
      have HF := Lib.hid hf
      clear hb4 hf ho4
      go_wp2
      go_ret3
      rw [HOR.out]
      exact HYES.out hr1 hr2 HF.out _ _ HO4.out HB4.out
  · by_cases k1 : (n : Int) < 1
    · go_wp2
      go_ret3
      exact HNO.out (fun hh => hr ⟨hh.1, hh.2.1⟩) _ HB3.out
    · have k2 : (48 : Int) < (n : Int) := by omega
      go_wp2
      go_ret3
      exact HNO.out (fun hh => hr ⟨hh.1, hh.2.1⟩) _ HB3.out

theorem headB_false {s : ByteArray} (h : headB s.data.toList = false) : hd s = (0, 0, false) := by unfold hd; rw [h]; rfl
theorem headB_true {s : ByteArray} (h : headB s.data.toList = true) : hd s = (seqOf s.data.toList, nmAt s.data.toList 12, true) := by unfold hd; rw [if_pos h]
theorem readHead_no (s : ByteArray) (w : World) (h : headB s.data.toList = false) :
    Calls Try.prog 101 #[.string s] w fun e w' => e = .returned (.tuple #[.int .u64 0, .slice none 0 0, .bool false]) ∧ Below w.heap.size w w' := by
  by_cases h1 : s.size = 256
  · have hne : ((s.size : Int) != 256) = false := by simp; omega
    have hl : s.data.toList.length = 256 := by rw [str_len]; exact h1
    cases hp : Lib.hasPrefix s.data.toList cdxt with
    | false => exact readHead_begin s w hne hp
    | true =>
      cases hq : Lib.hasSuffix s.data.toList cdxe with
      | false => exact readHead_end s w (by omega) hne hp hq
      | true =>
        refine readHead_form s _ w _ rfl hl hp hq (fun _ w' hb => ⟨rfl, hb⟩) ?_
        intro k1 k2 k3
        exfalso
        rw [Bool.eq_false_iff] at h
        exact h ((headB_iff _).2 ⟨hl, (prefix_iff _).1 hp, (suffix_iff _ hl).1 hq, k1, k2, k3⟩)
  · exact readHead_size s w (by simp; omega)
theorem readHead_yes (s : ByteArray) (w : World) (h : headB s.data.toList = true) :
    Calls Try.prog 101 #[.string s] w fun e w' => ∃ v, e = .returned (.tuple #[.int .u64 ((seqOf s.data.toList : Nat) : Int), v, .bool true]) ∧ OwnW w.heap.size w' v (takenL ((s.data.toList.take 248).drop 16) (nmAt s.data.toList 12)) ∧ Below w.heap.size w w' := by
  obtain ⟨h1, h2, h3, h4, h5, h6⟩ := (headB_iff _).1 h
  exact readHead_form s _ w _ rfl h1 ((prefix_iff _).2 h2) ((suffix_iff _ h1).2 h3) (fun hn => absurd ⟨h4, h5, h6⟩ hn) (fun _ _ _ v w' ho hb => ⟨v, rfl, ho, hb⟩)

set_option maxRecDepth 100000 in
set_option maxHeartbeats 1000000 in
theorem head_any (s : ByteArray) (w : World) :
    Calls Try.prog 94 #[.string s] w fun e w' => e = .returned (.tuple #[.int .u64 (((hd s).1 : Nat) : Int), .int .i64 (((hd s).2.1 : Nat) : Int), .bool (hd s).2.2]) ∧ Below w.heap.size w w' := by
  cases h : headB s.data.toList with
  | false =>
    rw [headB_false h]
    have C := Lib.hid (readHead_no s w h)
    clear h
    go_enter Try.func94, Try.ntmps94
    go_wp2_with fail
    refine C.out.mono ?_
    rintro e w1 ⟨rfl, hb1⟩
    have HB := Lib.hid hb1; clear hb1 C
    go_wp2
    go_ret3
    exact ⟨rfl, HB.out⟩
  | true =>
    rw [headB_true h]
    have C := Lib.hid (readHead_yes s w h)
    clear h
    generalize seqOf s.data.toList = sq at *
    generalize nmAt s.data.toList 12 = n at *
    go_enter Try.func94, Try.ntmps94
    go_wp2_with fail
    refine C.out.mono ?_
    rintro e w1 ⟨v, rfl, ho, hb1⟩
    have HB := Lib.hid hb1; clear hb1 C
    obtain ⟨ao, c, hv, _⟩ := ho.sl
    rw [takenL_len] at hv
    subst hv
    clear ho
    go_wp2
    go_ret3
    exact ⟨rfl, HB.out⟩
end Go.Proofs.Ytodfcbpimglhdaa.Fr
/- A frame in which one byte is another one, but for the number of writes, is not unpacked: in plain lists. -/
namespace Go.Proofs.Ytodfcbpimglhdaa.Fr
open Go.RowKit

theorem unp_err (L : List ByteArray) (h : (unp L).2.2 ≠ 0) : (unp L).2.1 = [] := by
  cases L with
  | nil => rfl
  | cons s D =>
    rw [unp_cons] at h ⊢
    by_cases hf : formB s D = true
    · rw [if_pos hf] at h ⊢
      by_cases hs : sumB s D = true
      · rw [if_pos hs] at h; exact absurd rfl h
      · rw [if_neg hs]
    · rw [if_neg hf]
theorem unp_ok {s : ByteArray} {D : List ByteArray} (h : (unp (s :: D)).2.2 = 0) : formB s D = true ∧ sumB s D = true := by
  rw [unp_cons] at h
  by_cases hf : formB s D = true
  · rw [if_pos hf] at h
    by_cases hs : sumB s D = true
    · exact ⟨hf, hs⟩
    · rw [if_neg hs] at h; cases h
  · rw [if_neg hf] at h; cases h
theorem set_parts (l : List UInt8) (i : Nat) (c : UInt8) (h : i < l.length) : l.set i c = l.take i ++ c :: l.drop (i + 1) := List.set_eq_take_append_cons_drop .. |>.trans (if_pos h)
theorem parts (l : List UInt8) (i : Nat) (h : i < l.length) : l = l.take i ++ l[i] :: l.drop (i + 1) := by
  rw [← List.drop_eq_getElem_cons h, List.take_append_drop]
/-- Two texts that part in one byte have two sums. -/
theorem crc_one (X Y : List UInt8) (x y : UInt8) (h : crcL (X ++ x :: Y) = crcL (X ++ y :: Y)) : x = y := by
  have hl : (X ++ x :: Y).length = (X ++ y :: Y).length := by simp
  have hi : X.length < (X ++ y :: Y).length := by simp
  have e0 : (X ++ y :: Y)[X.length] = y := by simp
  have e1 : (X ++ y :: Y).set X.length ((X ++ y :: Y)[X.length] ^^^ (y ^^^ x)) = X ++ x :: Y := by
    rw [e0, ← UInt8.xor_assoc, UInt8.xor_self, UInt8.zero_xor]
    rw [List.set_append_right _ _ (Nat.le_refl _), Nat.sub_self, List.set_cons_zero]
  have e2 := leN_set (X ++ y :: Y) X.length hi (y ^^^ x)
  rw [e1] at e2
  have hb := byte_lt (y ^^^ x)
  have e3 := crc_burst (X ++ y :: Y) (X ++ x :: Y) hl (8 * X.length) (y ^^^ x).toNat (by omega) (by omega) e2 h
  have := List.append_cancel_left e3
  exact (List.cons.inj this).1
theorem crc_set (l J : List UInt8) (i : Nat) (c : UInt8) (h : i < l.length) (hc : crcL (l.set i c ++ J) = crcL (l ++ J)) : c = l[i] := by
  rw [set_parts l i c h] at hc
  have e : l ++ J = l.take i ++ l[i] :: (l.drop (i + 1) ++ J) := by
    have := congrArg (· ++ J) (parts l i h)
    simp only [List.append_assoc, List.cons_append] at this
    exact this
  rw [e, List.append_assoc, List.cons_append] at hc
  exact crc_one _ _ _ _ hc
theorem getD_set (l : List UInt8) (m : Nat) (c : UInt8) (i : Nat) (h : i ≠ m) : (l.set m c).getD i 0 = l.getD i 0 := by
  simp only [List.getD]
  rw [List.getElem?_set_ne (Ne.symm h)]
theorem getD_set_same (l : List UInt8) (m : Nat) (c : UInt8) (h : m < l.length) : (l.set m c).getD m 0 = c := by
  simp [List.getD, h]
theorem nmAt_set (l : List UInt8) (m : Nat) (c : UInt8) (i : Nat) (h : m < i ∨ i + 4 ≤ m) : nmAt (l.set m c) i = nmAt l i := by
  unfold nmAt
  rw [getD_set _ _ _ _ (by omega), getD_set _ _ _ _ (by omega), getD_set _ _ _ _ (by omega), getD_set _ _ _ _ (by omega)]
theorem getD_at (l : List UInt8) (m : Nat) (h : m < l.length) : l.getD m 0 = l[m] := by simp [List.getD, h]

theorem tear_head (seq : Nat) (M : List (Int × ByteArray)) (m : Nat) (c : UInt8) (hseq : seq < 18446744073709551616) (h1 : 1 ≤ M.length) (h48 : M.length ≤ 48) (hw : ∀ x ∈ M, WrOk x) (hm : m < 256) (hn : ¬ (12 ≤ m ∧ m < 16))
    (hc : (unp (bs ((topL seq M).set m c) :: M.map (·.2))).2.2 = 0) : c = (topL seq M).getD m 0 := by
  obtain ⟨p1, p2, p3, p4, p5, p6⟩ := top_parts seq M hseq h1 h48 hw
  have hlen := topL_len seq M h48
  generalize topL seq M = l at *
  obtain ⟨hf, hs⟩ := unp_ok hc
  obtain ⟨f1, f2, f3⟩ := (formB_iff _ _).1 hf
  rw [data_bs] at f1 f2 f3
  unfold sumB at hs
  rw [data_bs] at hs
  obtain ⟨q1, q2, q3, q4, q5, q6⟩ := (headB_iff _).1 f1
  obtain ⟨r1, r2, r3, _⟩ := (headB_iff _).1 p1
  have hsame := getD_set_same l m c (by omega)
  have hn12 : nmAt (l.set m c) 12 = M.length := by rw [nmAt_set _ _ _ _ (by omega)]; exact p2
  rw [hn12] at hs
  have ht : (M.map (·.2)).take M.length = M.map (·.2) := List.take_of_length_le (by simp)
  rw [ht] at hs
  have hs' : nmAt (l.set m c) 248 = crcL ((l.set m c).take 248 ++ joinB (M.map (·.2))) := by simpa using hs
  by_cases a1 : m < 4
  · have e := congrArg (fun z => z.getD m 0) (q2.trans r2.symm)
    simp only [getD_take _ _ _ a1, hsame] at e
    exact e
  · by_cases a2 : m < 248
    · have e : (l.set m c).take 248 = (l.take 248).set m c := by rw [List.take_set]
      rw [nmAt_set _ _ _ _ (by omega), p6, e, ← p5] at hs'
      have hl : m < (l.take 248).length := by rw [List.length_take]; omega
      have := crc_set (l.take 248) (joinB (M.map (·.2))) m c hl hs'.symm
      rw [List.getElem_take] at this
      rw [this, getD_at l m (by omega)]
    · by_cases a3 : m < 252
      · have e : (l.set m c).take 248 = l.take 248 := by rw [List.take_set, List.set_eq_of_length_le (by rw [List.length_take]; omega)]
        rw [e, p5, ← p6] at hs'
        unfold nmAt at hs'
        obtain ⟨b0, b1, b2, b3⟩ := unfix_inj hs'
        have hm4 : m = 248 ∨ m = 249 ∨ m = 250 ∨ m = 251 := by omega
        rw [← hsame]
        rcases hm4 with rfl | rfl | rfl | rfl
        · exact b0
        · exact b1
        · exact b2
        · exact b3
      · have e := congrArg (fun z => z.getD (m - 252) 0) (q3.trans r3.symm)
        simp only [getD_drop] at e
        rw [show 252 + (m - 252) = m by omega, hsame] at e
        exact e
theorem joinB_append (A B : List ByteArray) : joinB (A ++ B) = joinB A ++ joinB B := by unfold joinB; rw [List.flatMap_append]
theorem tear_data (seq : Nat) (M : List (Int × ByteArray)) (k m : Nat) (c : UInt8) (hseq : seq < 18446744073709551616) (h1 : 1 ≤ M.length) (h48 : M.length ≤ 48) (hw : ∀ x ∈ M, WrOk x) (hk : k < M.length) (hm : m < 256)
    (hc : (unp (bs (topL seq M) :: (M.map (·.2)).set k (bs (M[k].2.data.toList.set m c)))).2.2 = 0) : c = M[k].2.data.toList.getD m 0 := by
  obtain ⟨p1, p2, p3, p4, p5, p6⟩ := top_parts seq M hseq h1 h48 hw
  have hz := (hw _ (List.getElem_mem hk)).2.2
  obtain ⟨hf, hs⟩ := unp_ok hc
  unfold sumB at hs
  rw [data_bs, p2, p5, p6, List.take_of_length_le (by simp)] at hs
  have hs' : crcL (headL seq M ++ joinB (M.map (·.2))) = crcL (headL seq M ++ joinB ((M.map (·.2)).set k (bs (M[k].2.data.toList.set m c)))) := by simpa using hs
  have hkl : k < (M.map (·.2)).length := by simpa using hk
  have e1 : M.map (·.2) = (M.map (·.2)).take k ++ M[k].2 :: (M.map (·.2)).drop (k + 1) := by
    have := List.drop_eq_getElem_cons hkl
    rw [List.getElem_map] at this
    rw [← this, List.take_append_drop]
  have e2 : (M.map (·.2)).set k (bs (M[k].2.data.toList.set m c)) = (M.map (·.2)).take k ++ bs (M[k].2.data.toList.set m c) :: (M.map (·.2)).drop (k + 1) := List.set_eq_take_append_cons_drop .. |>.trans (if_pos hkl)
  rw [e2] at hs'
  have e3 := congrArg joinB e1
  rw [e3] at hs'
  generalize (M.map (·.2)).take k = A at *
  generalize (M.map (·.2)).drop (k + 1) = B at *
  generalize M[k].2 = s at *
  have j (t : ByteArray) : joinB (A ++ t :: B) = joinB A ++ (t.data.toList ++ joinB B) := by
    rw [joinB_append]; unfold joinB; rw [List.flatMap_cons]
  rw [j, j, data_bs] at hs'
  have hm' : m < s.data.toList.length := by rw [str_len, hz]; exact hm
  rw [set_parts _ m c hm'] at hs'
  have e5 : s.data.toList ++ joinB B = s.data.toList.take m ++ s.data.toList[m] :: (s.data.toList.drop (m + 1) ++ joinB B) := by
    have := congrArg (· ++ joinB B) (parts s.data.toList m hm')
    simp only [List.append_assoc, List.cons_append] at this
    exact this
  rw [e5] at hs'
  simp only [List.append_assoc, List.cons_append] at hs'
  rw [getD_at _ m hm']
  refine (crc_one (headL seq M ++ (joinB A ++ s.data.toList.take m)) (s.data.toList.drop (m + 1) ++ joinB B) _ _ ?_).symm
  simp only [List.append_assoc]
  exact hs'
end Go.Proofs.Ytodfcbpimglhdaa.Fr

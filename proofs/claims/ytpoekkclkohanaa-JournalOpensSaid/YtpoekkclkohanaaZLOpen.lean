/- Arguments that came in, read: for the statements of layer 4. -/
import Derived.Test.YtpoekkclkohanaaZLaw
import Derived.Test.YtpoekkclkohanaaZFBase
import Derived.SliceStrings
import Derived.Deep.Slices

namespace Go.Proofs.Ytpoekkclkohanaa
open Go.ChangeShapes Go.WideShapes Go.ChangeAt Go.RowKit Go.Deep

theorem wf_i64' {k : Int} (h : (Lit.int .i64 k).wf = true) : -9223372036854775808 ≤ k ∧ k ≤ 9223372036854775807 := by
  simpa [Lit.wf, IntKind.min, IntKind.max, IntKind.signed, IntKind.bits] using h
end Go.Proofs.Ytpoekkclkohanaa
/- Arguments that came in, read: numbers, texts, slices of texts and of writes. -/
namespace Go.Proofs.Ytpoekkclkohanaa.Fr
open Go.ChangeShapes Go.WideShapes Go.ChangeAt Go.RowKit Go.Deep

/-- Slices of writes, and of texts, that came in. -/
def WrsA (W : World) (v : Value) (L : List (Int × ByteArray)) : Prop := SlW W v L ∧ L.length ≤ maxLen ∧ ∀ x ∈ L, x.2.size ≤ maxLen ∧ -9223372036854775808 ≤ x.1 ∧ x.1 ≤ 9223372036854775807
def StsA (W : World) (v : Value) (L : List ByteArray) : Prop := SlS W v L ∧ L.length ≤ maxLen ∧ (∀ x ∈ L, x.size ≤ maxLen) ∧ ∀ n c, v = .slice none n c → c = 0

theorem nat_u64 {k : Int} (h : (Lit.int .u64 k).wf = true) : ∃ n : Nat, k = (n : Int) ∧ n < 18446744073709551616 := by
  have h2 : 0 ≤ k ∧ k ≤ 18446744073709551615 := by simpa [Lit.wf, IntKind.min, IntKind.max, IntKind.signed, IntKind.bits] using h
  exact ⟨k.toNat, by omega, by omega⟩
theorem wf_i64' {k : Int} (h : (Lit.int .i64 k).wf = true) : -9223372036854775808 ≤ k ∧ k ≤ 9223372036854775807 := by
  simpa [Lit.wf, IntKind.min, IntKind.max, IntKind.signed, IntKind.bits] using h
theorem addr_plain {w : World} {a : Addr} {v : Value} (h : w.cell? a = some v) : ∃ b off, a = ⟨b, off, none⟩ := by
  obtain ⟨b, off, spot⟩ := a
  unfold World.cell? at h
  split at h
  · cases spot with
    | none => exact ⟨b, off, rfl⟩
    | some s => simp at h
  · cases h
theorem add_plain (b off j : Nat) : (⟨b, off, none⟩ : Addr).add j = ⟨b, off + j, none⟩ := by unfold Addr.add; split <;> simp_all
theorem cells_int : Try.prog.cellsOf 3 = 1 := by kernel_rfl
theorem cells_str : Try.prog.cellsOf 9 = 1 := by kernel_rfl
theorem cells_write : Try.prog.cellsOf 58 = 2 := by kernel_rfl

section
variable {H : Type} {enc : TypeId × Value → H} {P : Program} {w : World} {base : Nat} {spare : Nat → Bool} {held : Bool}
theorem trodAll_five {t t' t'' t3 t4 : TypeId} {args : Array Value} {ds : List (DataW H)} {ps : List MemPlace} (h : DataW.TrodAll enc P w base spare held [t, t', t'', t3, t4] args.toList ds ps) :
    ∃ v v' v'' v3 v4 d d' d'' d3 d4 p p' p'' p3 p4, args = #[v, v', v'', v3, v4] ∧ ds = [d, d', d'', d3, d4] ∧ ps = p ++ p' ++ p'' ++ p3 ++ p4 ∧ DataW.Trod enc P w base spare held t v d p ∧ DataW.Trod enc P w base spare held t' v' d' p' ∧ DataW.Trod enc P w base spare held t'' v'' d'' p'' ∧ DataW.Trod enc P w base spare held t3 v3 d3 p3 ∧ DataW.Trod enc P w base spare held t4 v4 d4 p4 := by
  obtain ⟨v, vs, d, ds', p, q, hargs, rfl, rfl, hd, hrest⟩ := trodAll_cons h
  obtain ⟨v', vs', d', ds'', p', q', rfl, rfl, rfl, hd', hrest'⟩ := trodAll_cons hrest
  obtain ⟨v'', vs'', d'', ds''', p'', q'', rfl, rfl, rfl, hd'', hrest''⟩ := trodAll_cons hrest'
  obtain ⟨v3, vs3, d3, ds3, p3, q3, rfl, rfl, rfl, hd3, hrest3⟩ := trodAll_cons hrest''
  obtain ⟨v4, vs4, d4, ds4, p4, q4, rfl, rfl, rfl, hd4, hrest4⟩ := trodAll_cons hrest3
  obtain ⟨rfl, rfl, rfl⟩ := trodAll_nil hrest4
  exact ⟨v, v', v'', v3, v4, d, d', d'', d3, d4, p, p', p'', p3, p4, by cases args; simp_all, rfl, by simp, hd, hd', hd'', hd3, hd4⟩
end

section
variable {H : Type} {enc : TypeId × Value → H} {W : World} {held : Bool}
set_option maxRecDepth 100000 in
theorem open_sts {v : Value} {d : DataW H} {ps : List MemPlace} {r : Reach} {b0 : Nat} (hv : Value.okWide Try.prog W r b0 22 v) (h : DataW.Trod enc Try.prog W 0 (fun _ => true) held 22 v d ps) : ∃ L, StsA W v L := by
  obtain ⟨ao, len, cap, rfl⟩ := okWide_slice Try.underlying22 hv
  obtain ⟨fuel, hf⟩ := h
  have hf' : DataW.trod enc Try.prog W 0 (fun _ => true) held fuel 22 [.slice ao len cap] = some (d, ps) := by simpa [Value.cells] using hf
  rcases open_strings Try.underlying22 Try.underlying9 cells_str hf' with ⟨hcs, _⟩ | ⟨a, len', cap', ss, hcs, _, hl, hm, hz, _, hcell, hw⟩
  · simp only [List.cons.injEq, and_true] at hcs
    cases hcs
    exact ⟨[], ⟨none, 0, rfl, Nat.le_refl _, .inl rfl⟩, by simp, (fun x hx => by cases hx), fun n c h => by cases h; rfl⟩
  · simp only [List.cons.injEq, and_true] at hcs
    cases hcs
    simp only [if_true] at hz
    have hL : (ss.take len).length = len := by simp; omega
    refine ⟨ss.take len, ⟨some a, cap, by rw [hL], by rw [hL]; exact hl, ?_⟩, by omega, (fun x hx => hw x (List.mem_of_mem_take hx)), fun n c h => by cases h⟩
    by_cases h0 : len = 0
    · left; subst h0; simp
    · right
      have hc0 := hcell 0 (by omega)
      obtain ⟨b, off, hab⟩ := addr_plain hc0
      have ha : a = ⟨b, off, none⟩ := by simpa [Addr.add] using hab
      subst ha
      refine ⟨b, off, rfl, World.block_lt_of_cell? W _ hc0, fun i hi => ?_⟩
      have hi' : i < len := by rw [hL] at hi; exact hi
      have hz' : i < ss.length := by omega
      have := hcell i hz'
      rw [add_plain] at this
      rw [this]
      simp [List.getD, hz']

set_option maxRecDepth 100000 in
theorem write_cells {n : Nat} {cs : List Value} {x : DataW H × List MemPlace} (hlen : cs.length = 2) (h : DataW.trod enc Try.prog W 0 (fun _ => true) held n 58 cs = some x) :
    ∃ p : Int × ByteArray, (p.2.size ≤ maxLen ∧ -9223372036854775808 ≤ p.1 ∧ p.1 ≤ 9223372036854775807) ∧ cs = [.int .i64 p.1, .string p.2] := by
  obtain ⟨xs, n', _, _, _, _, hf⟩ := DataW.trod_struct Try.underlying58 h
  match cs, hlen with
  | [c0, c1], _ =>
    have f0 : DataW.trod enc Try.prog W 0 (fun _ => true) held n' 3 ([c0].take (Try.prog.cellsOf 3)) = xs[0]? := by rw [cells_int]; have := hf 0 _ rfl; simp only [List.getElem_toArray, List.getElem_cons_zero] at this; rw [cells_int] at this; exact this
    have f1 : DataW.trod enc Try.prog W 0 (fun _ => true) held n' 9 [c1] = xs[1]? := by have := hf 1 _ rfl; simp only [List.getElem_toArray, List.getElem_cons_zero, List.getElem_cons_succ] at this; rw [cells_str] at this; exact this
    rw [cells_int] at f0
    have some_of : ∀ {i : Nat} {o : Option (DataW H × List MemPlace)}, i < xs.length → o = xs[i]? → ∃ y, o = some y := fun {i o} hi e => ⟨xs[i], by rw [e, List.getElem?_eq_getElem hi]⟩
    have hxl : xs.length = 2 := by assumption
    obtain ⟨y0, e0⟩ := some_of (by omega) f0
    obtain ⟨y1, e1⟩ := some_of (by omega) f1
    simp only [List.take_succ_cons, List.take_zero] at e0
    obtain ⟨bl, h0, _, w0⟩ := DataW.trod_int Try.underlying3 e0
    obtain ⟨s, h1, _, hs⟩ := DataW.trod_string Try.underlying9 e1
    simp only [List.cons.injEq, and_true] at h0 h1
    subst h0 h1
    have := wf_i64' w0
    exact ⟨(bl, s), ⟨hs, this.1, this.2⟩, rfl⟩
set_option maxRecDepth 100000 in
theorem open_write {n : Nat} {a : Addr} {cs : List Value} {x : DataW H × List MemPlace} (hcs : W.cells? 0 a 2 = some cs) (h : DataW.trod enc Try.prog W 0 (fun _ => true) held n 58 cs = some x) :
    ∃ p : Int × ByteArray, (p.2.size ≤ maxLen ∧ -9223372036854775808 ≤ p.1 ∧ p.1 ≤ 9223372036854775807) ∧ W.cell? (a.add 0) = some (.int .i64 p.1) ∧ W.cell? (a.add 1) = some (.string p.2) := by
  obtain ⟨_, hlen, hat⟩ := World.cells?_some hcs
  obtain ⟨p, hp, rfl⟩ := write_cells hlen h
  exact ⟨p, hp, by rw [hat 0 (by omega)]; rfl, by rw [hat 1 (by omega)]; rfl⟩
set_option maxRecDepth 100000 in
theorem open_wrs {v : Value} {d : DataW H} {ps : List MemPlace} {r : Reach} {b0 : Nat} (hv : Value.okWide Try.prog W r b0 42 v) (h : DataW.Trod enc Try.prog W 0 (fun _ => true) held 42 v d ps) : ∃ L, WrsA W v L := by
  obtain ⟨ao, len, cap, rfl⟩ := okWide_slice Try.underlying42 hv
  obtain ⟨fuel, hf⟩ := h
  have hf' : DataW.trod enc Try.prog W 0 (fun _ => true) held fuel 42 [.slice ao len cap] = some (d, ps) := by simpa [Value.cells] using hf
  rcases open_slice Try.underlying42 hf' with ⟨hcs, _⟩ | ⟨a, len', cap', m, n, D, Pl, hcs, _, hl, hm, hmm, _, hc⟩
  · simp only [List.cons.injEq, and_true] at hcs
    cases hcs
    exact ⟨[], ⟨none, 0, rfl, Nat.le_refl _, .inl rfl⟩, by simp, (fun x hx => by cases hx)⟩
  · simp only [List.cons.injEq, and_true] at hcs
    cases hcs
    simp only [if_true] at hmm
    rw [cells_write] at hc
    obtain ⟨F, hF⟩ := choose_lt (α := Int × ByteArray) (n := m) (p := fun i p => (p.2.size ≤ maxLen ∧ -9223372036854775808 ≤ p.1 ∧ p.1 ≤ 9223372036854775807) ∧ W.cell? (a.add (i * 2)) = some (.int .i64 p.1) ∧ W.cell? (a.add (i * 2 + 1)) = some (.string p.2)) (fun i hi => by
      obtain ⟨cs, h1, h2⟩ := hc i hi
      obtain ⟨p, hp, k0, k1⟩ := open_write h1 h2
      rw [add_add] at k0 k1
      exact ⟨p, hp, k0, k1⟩)
    have hL : ((List.range len).map F).length = len := by simp
    refine ⟨(List.range len).map F, ⟨some a, cap, by rw [hL], by rw [hL]; exact hl, ?_⟩, by rw [hL]; omega, ?_⟩
    · by_cases h0 : len = 0
      · left; subst h0; rfl
      · right
        have k0 := (hF 0 (by omega)).2.1
        obtain ⟨b, off, hab⟩ := addr_plain k0
        have ha : a = ⟨b, off, none⟩ := by simpa [Addr.add] using hab
        subst ha
        rw [add_plain] at k0
        refine ⟨b, off, rfl, World.block_lt_of_cell? W _ k0, fun i hi => ?_⟩
        have hi' : i < len := by rw [hL] at hi; exact hi
        have := (hF i (by omega)).2
        rw [add_plain, add_plain, ← Nat.add_assoc] at this
        simpa using this
    · intro x hx
      simp only [List.mem_map, List.mem_range] at hx
      obtain ⟨i, hi, rfl⟩ := hx
      exact (hF i (by omega)).1
end
end Go.Proofs.Ytpoekkclkohanaa.Fr

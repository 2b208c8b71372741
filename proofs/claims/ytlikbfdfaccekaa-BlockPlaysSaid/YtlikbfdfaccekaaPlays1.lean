/- A device and the document's device beside one another; what the acts do to both. -/
import Derived.Test.YtlikbfdfaccekaaRef8
namespace Go.Proofs.Ytlikbfdfaccekaa
open Go.RowKit

/-- Behind world w0 block p is a device that says D1, block r the document's, that says D2; what was there in w0 is as it was. -/
def Both (w0 w : World) (p : Nat) (D1 : DevS) (r : Nat) (D2 : DevS) : Prop :=
  ∃ S1 S2 : Nat → Prop, (∀ k, S1 k → w0.heap.size ≤ k) ∧ (∀ k, S2 k → w0.heap.size ≤ k) ∧ (∀ k, S1 k → ¬ S2 k) ∧ Stands S1 w p D1 ∧ RStands S2 w r D2 ∧ Below w0.heap.size w0 w

section
variable {w0 w w' : World} {p r : Nat} {D1 D2 : DevS}
theorem Both.bel (h : Both w0 w p D1 r D2) : Below w0.heap.size w0 w := by obtain ⟨_, _, _, _, _, _, _, h⟩ := h; exact h
theorem Both.below (h : Both w0 w p D1 r D2) (hb : Below w.heap.size w w') : Both w0 w' p D1 r D2 := by
  obtain ⟨S1, S2, h1, h2, h3, h4, h5, h6⟩ := h
  exact ⟨S1, S2, h1, h2, h3, h4.below hb, h5.below hb, h6.trans (hb.mono h6.size)⟩
theorem Both.new (h : At w0 w p D1) (hb : Below w.heap.size w w') (hr : ∃ S : Nat → Prop, (∀ k, S k → w.heap.size ≤ k) ∧ RStands S w' r D2) : Both w0 w' p D1 r D2 := by
  obtain ⟨S1, h1, h2, h3⟩ := h
  obtain ⟨S2, g1, g2⟩ := hr
  exact ⟨S1, S2, h1, fun k hk => Nat.le_trans h3.size (g1 k hk), fun k hk hk' => by have := h2.lt k hk; have := g1 k hk'; omega, h2.below hb, g2, h3.trans (hb.mono h3.size)⟩

theorem keep_bools {S : Nat → Prop} {a : ActS} (ha : a.Ok w0) (hS : ∀ k, S k → w0.heap.size ≤ k) (h0 : Below w0.heap.size w0 w) : Bools S w (.slice a.kao a.keep.length a.kcap) a.keep := by
  refine ⟨_, _, rfl, ?_⟩
  rcases ha.keeps with h | ⟨g, off, e, hg, hc⟩
  · exact .inl h
  · exact .inr ⟨g, off, e, fun h => by have := hS g h; omega, fun i hi => (h0.cell (p := ⟨g, off + i, none⟩) hg).trans (hc i hi)⟩

theorem Both.does (a : ActS) (hl : D1.pend.length ≤ 1000000) (hs : a.data.size ≤ 600) (hk : a.keep.length ≤ 200) (ha : a.Ok w0) (h : Both w0 w p D1 r D2) :
    Calls Try.prog 14 #[.pointer (some ⟨p, 0, none⟩), .agg #[.int .i64 a.op, .int .i64 a.at_, .int .i64 a.n, .slice a.kao a.keep.length a.kcap, .string a.data]] w fun e w' =>
      e = .returned (.tuple #[.string (D1.does a).1.1, .int .i64 (D1.does a).1.2]) ∧ Both w0 w' p (D1.does a).2 r D2 := by
  obtain ⟨S1, S2, h1, h2, h3, h4, h5, h6⟩ := h
  refine (does_any a hl hs hk ha.op0 ha.n0.2 (keep_bools ha h1 h6) h4).mono fun e w' ⟨he, S', hS', hst, ho⟩ => ⟨he, S', S2, fun k hk => ?_, h2, fun k hk hk' => ?_, hst, h5.kept ho (fun k g2 g1 => h3 k g1 g2), h6.trans (ho.below h6.size (fun k _ hk => h1 k hk))⟩
  · rcases hS' k hk with h | h
    · exact h1 k h
    · exact Nat.le_trans h6.size h
  · rcases hS' k hk with h | h
    · exact h3 k h hk'
    · have := h5.lt k hk'; omega
theorem Both.model (a : ActS) (hl : D2.pend.length ≤ 1000000) (hs : a.data.size ≤ 600) (hk : a.keep.length ≤ 200) (ha : a.Ok w0) (h : Both w0 w p D1 r D2) :
    Calls Try.prog 15 #[.pointer (some ⟨r, 0, none⟩), .agg #[.int .i64 a.op, .int .i64 a.at_, .int .i64 a.n, .slice a.kao a.keep.length a.kcap, .string a.data]] w fun e w' =>
      e = .returned (.tuple #[.string (D2.does a).1.1, .int .i64 (D2.does a).1.2]) ∧ Both w0 w' p D1 r (D2.does a).2 := by
  obtain ⟨S1, S2, h1, h2, h3, h4, h5, h6⟩ := h
  refine (model_any a hl hs hk ha.op0 ha.n0.2 (keep_bools ha h2 h6) h5).mono fun e w' ⟨he, S', hS', hst, ho⟩ => ⟨he, S1, S', h1, fun k hk => ?_, fun k hk' hk => ?_, h4.kept ho (fun k g1 g2 => h3 k g1 g2), hst, h6.trans (ho.below h6.size (fun k _ hk => h2 k hk))⟩
  · rcases hS' k hk with h | h
    · exact h2 k h
    · exact Nat.le_trans h6.size h
  · rcases hS' k hk with h | h
    · exact h3 k hk' h
    · have := h4.lt k hk'; omega
theorem Both.dead (h : Both w0 w p D1 r D2) : Calls Try.prog 16 #[.pointer (some ⟨p, 0, none⟩)] w fun e w' => e = .returned (.bool D1.dead) ∧ w = w' := by
  obtain ⟨S1, S2, h1, h2, h3, h4, h5, h6⟩ := h; exact dead_any h4
theorem Both.blocks (h : Both w0 w p D1 r D2) : Calls Try.prog 21 #[.pointer (some ⟨p, 0, none⟩)] w fun e w' => e = .returned (.int .i64 D1.disk.length) ∧ w = w' := by
  obtain ⟨S1, S2, h1, h2, h3, h4, h5, h6⟩ := h; exact blocks_any h4
theorem Both.gone (h : Both w0 w p D1 r D2) : w.cell? ⟨r, 3, none⟩ = some (.bool D2.dead) := by
  obtain ⟨S1, S2, h1, h2, h3, h4, ⟨_, _, _, h5⟩, h6⟩ := h; exact h5.c3
theorem Both.rows (hl : D2.pend.length ≤ 1000000) (h : Both w0 w p D1 r D2) : ∃ v1 v2, w.cell? ⟨r, 0, none⟩ = some v1 ∧ w.cell? ⟨r, 1, none⟩ = some v2 ∧ Strs w v1 D2.disk ∧ Wrs w v2 D2.pend := by
  obtain ⟨S1, S2, h1, h2, h3, h4, ⟨q, lcap, pv, h5⟩, h6⟩ := h
  exact ⟨_, _, h5.c0, h5.c1, .of_own h5.hl (by have := h5.ok.few; omega), .of_own h5.hr hl⟩
theorem Both.disk (h : Both w0 w p D1 r D2) : Calls Try.prog 18 #[.pointer (some ⟨p, 0, none⟩)] w fun e w' => ∃ v, e = .returned v ∧ Strs w' v D1.disk ∧ Below w.heap.size w w' := by
  obtain ⟨S1, S2, h1, h2, h3, h4, h5, h6⟩ := h
  exact (disk_any h4).mono fun e w' ⟨v, he, hown, hb⟩ => ⟨v, he, .of_own hown (by have := h4.ok.few; omega), hb⟩
theorem Both.pending (hl : D1.pend.length ≤ 1000000) (h : Both w0 w p D1 r D2) : Calls Try.prog 20 #[.pointer (some ⟨p, 0, none⟩)] w fun e w' => ∃ v, e = .returned v ∧ Wrs w' v D1.pend ∧ Below w.heap.size w w' := by
  obtain ⟨S1, S2, h1, h2, h3, h4, h5, h6⟩ := h
  exact (pending_any hl h4).mono fun e w' ⟨v, he, hown, hb⟩ => ⟨v, he, .of_own hown hl, hb⟩
end

/-- Both say D; v1 and v2 are the document's rows. -/
def RowsB (w W : World) (p r : Nat) (D : DevS) (v1 v2 : Value) : Prop := Both w W p D r D ∧ Strs W v1 D.disk ∧ Wrs W v2 D.pend
theorem heldB_next {w W W' : World} {p r : Nat} {D : DevS} {v1 v2 : Value} (h : W.cell? ⟨r, 0, none⟩ = some v1 ∧ W.cell? ⟨r, 1, none⟩ = some v2 ∧ RowsB w W p r D v1 v2) (hb : Below W.heap.size W W') :
    W'.cell? ⟨r, 0, none⟩ = some v1 ∧ W'.cell? ⟨r, 1, none⟩ = some v2 ∧ RowsB w W' p r D v1 v2 :=
  ⟨cell_later hb h.1, cell_later hb h.2.1, h.2.2.1.below hb, h.2.2.2.1.below hb, h.2.2.2.2.below hb⟩

/-- New, the program's and the document's, of any number: the error, and whether there is one. -/
theorem new_both (n : Int) (w0 : World) : ∃ (x : Bool), (∀ w, Below w0.heap.size w0 w → Calls Try.prog 11 #[.int .i64 n] w fun e w' => ∃ ao, e = .returned (.tuple #[.pointer (if x then some ao else none), .int .i64 (if x then 0 else 2)]) ∧ Below w.heap.size w w') ∧
    (∀ w, Calls Try.prog 12 #[.int .i64 n] w fun e w' => ∃ ao, e = .returned (.tuple #[.pointer (if x then some ao else none), .bool x]) ∧ Below w.heap.size w w') := by
  by_cases h : 1 ≤ n ∧ n ≤ 4096
  · refine ⟨true, fun w hb => (new_any n w h).mono fun _ _ ⟨p, he, hf⟩ => ⟨⟨p, 0, none⟩, he, ?_⟩, fun w => ?_⟩
    · obtain ⟨S, _, _, h⟩ := hf; exact h
    · obtain ⟨m, rfl⟩ := Int.eq_ofNat_of_zero_le (show 0 ≤ n by omega)
      exact (rnew_yes m w (by omega) (by omega)).mono fun _ _ ⟨r, he, S, _, _, hb⟩ => ⟨⟨r, 0, none⟩, he, hb⟩
  · have h' : n < 1 ∨ 4096 < n := by omega
    refine ⟨false, fun w _ => (new_no n w h').mono fun _ w' ⟨he, hw⟩ => ⟨⟨0, 0, none⟩, he, by subst hw; exact Below.refl _ _⟩, fun w => (rnew_no n w h').mono fun _ w' ⟨he, hw⟩ => ⟨⟨0, 0, none⟩, he, by subst hw; exact Below.refl _ _⟩⟩

end Go.Proofs.Ytlikbfdfaccekaa

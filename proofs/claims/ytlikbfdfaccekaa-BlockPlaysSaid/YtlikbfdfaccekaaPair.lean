/- Two devices side by side, rows of texts beside them, and what sameTexts answers of two rows that say the same. -/
import Derived.Test.YtlikbfdfaccekaaFlushes
import Derived.Deep.QuietTactic
import Derived.BigQuiet
namespace Go.Proofs.Ytlikbfdfaccekaa
open Go.RowKit

/-- The slice value v says the texts l. -/
def Strs (w : World) (v : Value) (l : List ByteArray) : Prop :=
  ∃ ao cap, v = .slice ao l.length cap ∧ l.length ≤ 1000000 ∧ (l = [] ∨ ∃ g, ao = some ⟨g, 0, none⟩ ∧ ∀ i (h : i < l.length), w.cell? ⟨g, i, none⟩ = some (.string l[i]))

theorem Strs.of_own {w : World} {B : Nat} {v : Value} {n : Nat} {l : List ByteArray} (h : w.ownsRow B 9 1 v n (l.map Value.string)) (hl : l.length ≤ 1000000) : Strs w v l := by
  have hn : n = l.length := by have := h.1; simp at this; exact this.symm
  subst hn
  rcases h.2 with ⟨rfl, h0⟩ | ⟨g, cap, cur, rfl, _⟩
  · refine ⟨none, 0, by rw [h0], hl, .inl (List.eq_nil_of_length_eq_zero h0)⟩
  · refine ⟨some ⟨g, 0, none⟩, cap, rfl, hl, .inr ⟨g, rfl, fun i hi => ?_⟩⟩
    rw [World.ownsRow.cellAt h i (by omega)]; simp [hi]
theorem Strs.kept {w w' : World} {v : Value} {l : List ByteArray} (h : Strs w v l) (hk : ∀ k, v.ownBlock = some k → k < w.heap.size → w'.heap[k]? = w.heap[k]?) : Strs w' v l := by
  obtain ⟨ao, cap, rfl, hl, hc⟩ := h
  refine ⟨ao, cap, rfl, hl, ?_⟩
  rcases hc with hc | ⟨g, rfl, hc⟩
  · exact .inl hc
  · refine .inr ⟨g, rfl, fun i hi => ?_⟩
    have := hc i hi
    rw [World.cell?_of_block (w := w) (hk g rfl (World.block_lt_of_cell? w _ this))]
    exact this
theorem Strs.below {w w' : World} {v : Value} {l : List ByteArray} (h : Strs w v l) (hb : Below w.heap.size w w') : Strs w' v l := h.kept (fun k _ hk => hb.block k hk)

set_option maxHeartbeats 1000000 in
theorem same_any (v1 v2 : Value) (l : List ByteArray) (w : World) (h1 : Strs w v1 l) (h2 : Strs w v2 l) :
    Calls Try.prog 17 #[v1, v2] w fun e w' => e = .returned (.bool true) ∧ Below w.heap.size w w' := by
  obtain ⟨ao1, cap1, rfl, hl, hc1⟩ := h1
  obtain ⟨ao2, cap2, rfl, _, hc2⟩ := h2
  have HC : Hid (∀ k (h : k < l.length) (W : World), W.heap = w.heap → ∃ g1 g2, ao1 = some ⟨g1, 0, none⟩ ∧ ao2 = some ⟨g2, 0, none⟩ ∧ W.cell? ⟨g1, k, none⟩ = some (.string l[k]) ∧ W.cell? ⟨g2, k, none⟩ = some (.string l[k])) := by
    intro k hk W hW
    rcases hc1 with rfl | ⟨g1, e1, hc1⟩
    · simp at hk
    · rcases hc2 with rfl | ⟨g2, e2, hc2⟩
      · simp at hk
      · refine ⟨g1, g2, e1, e2, ?_, ?_⟩
        · rw [World.cell?_of_block (w := w) (by rw [hW])]; exact hc1 k hk
        · rw [World.cell?_of_block (w := w) (by rw [hW])]; exact hc2 k hk
  clear hc1 hc2
  obtain ⟨n, hn⟩ : ∃ n, l.length = n := ⟨_, rfl⟩
  have HN := Lib.hid hn
  rw [hn] at hl ⊢
  clear hn
  go_enter Try.func17, Try.ntmps17
  go_wp2_with fail
  go_loopw [5] (fun i wr => ∃ k q : Nat, k ≤ n ∧ i = .int .i64 k ∧ wr = w.drewN q) (fun i _ => n - (intOf i).toNat)
  case atStart => exact ⟨0, 0, Nat.zero_le _, rfl, rfl⟩
  case round =>
    obtain ⟨k, q, hk, rfl, rfl⟩ := hrel
    by_cases hlt : k < n
    · obtain ⟨g1, g2, rfl, rfl, c1, c2⟩ := HC.out k (by rw [HN.out]; exact hlt) w rfl
      generalize l[k]'(by rw [HN.out]; exact hlt) = X at *
      have hkz : (k : Int) < (n : Int) := by omega
      have hk0 : (0 : Int) ≤ (k : Int) := by omega
      go_wp2
      go_quiet (fail)
      go_wp2
      go_roundw
      case rel => exact ⟨k + 1, _, by omega, by go_num, rfl⟩
      case measure => simp [intOf]; omega
    · go_wp2
      go_ret
      exact ⟨rfl, below_drewN (Below.refl _ _) q⟩

/-- Two devices beside one another, and blocks K that are neither's. -/
structure Two (K S1 S2 : Nat → Prop) (w0 w : World) (p1 : Nat) (D1 : DevS) (p2 : Nat) (D2 : DevS) : Prop where
  b1 : ∀ k, S1 k → w0.heap.size ≤ k
  b2 : ∀ k, S2 k → w0.heap.size ≤ k
  dj : ∀ k, S1 k → ¬ S2 k
  d1 : Stands S1 w p1 D1
  d2 : Stands S2 w p2 D2
  bel : Below w0.heap.size w0 w
  kp : ∀ k, K k → k < w.heap.size ∧ ¬ S1 k ∧ ¬ S2 k

section
variable {K S1 S2 : Nat → Prop} {w0 w w' : World} {p1 p2 : Nat} {D1 D2 D' : DevS}
theorem Two.swap (h : Two K S1 S2 w0 w p1 D1 p2 D2) : Two K S2 S1 w0 w p2 D2 p1 D1 :=
  ⟨h.b2, h.b1, fun k h2 h1 => h.dj k h1 h2, h.d2, h.d1, h.bel, fun k hk => ⟨(h.kp k hk).1, (h.kp k hk).2.2, (h.kp k hk).2.1⟩⟩
theorem Two.below (h : Two K S1 S2 w0 w p1 D1 p2 D2) (hb : Below w.heap.size w w') : Two K S1 S2 w0 w' p1 D1 p2 D2 :=
  ⟨h.b1, h.b2, h.dj, h.d1.below hb, h.d2.below hb, h.bel.trans (hb.mono h.bel.size), fun k hk => ⟨Nat.lt_of_lt_of_le (h.kp k hk).1 hb.size, (h.kp k hk).2⟩⟩
theorem Two.first (h : Two K S1 S2 w0 w p1 D1 p2 D2) (hl : Leaves S1 w w' p1 D') : (∃ S1', Two K S1' S2 w0 w' p1 D' p2 D2) ∧ ∀ k, K k → w'.heap[k]? = w.heap[k]? := by
  obtain ⟨S', hS', hst, ho⟩ := hl
  have lt2 := h.d2.lt
  refine ⟨⟨S', ?_, h.b2, ?_, hst, h.d2.kept ho (fun k h2 h1 => h.dj k h1 h2), h.bel.trans (ho.below h.bel.size (fun k _ hk => h.b1 k hk)), ?_⟩, fun k hk => ho.block k (h.kp k hk).1 (h.kp k hk).2.1⟩
  · intro k hk
    rcases hS' k hk with hs | hs
    · exact h.b1 k hs
    · exact Nat.le_trans h.bel.size hs
  · intro k hk h2
    rcases hS' k hk with hs | hs
    · exact h.dj k hs h2
    · have := lt2 k h2; omega
  · intro k hk
    refine ⟨Nat.lt_of_lt_of_le (h.kp k hk).1 ho.size, fun hs => ?_, (h.kp k hk).2.2⟩
    rcases hS' k hs with hs | hs
    · exact (h.kp k hk).2.1 hs
    · have := (h.kp k hk).1; omega
/-- More blocks that are neither's. -/
theorem Two.more {K' : Nat → Prop} (h : Two K S1 S2 w0 w p1 D1 p2 D2) (hk : ∀ k, K' k → K k ∨ (k < w.heap.size ∧ ¬ S1 k ∧ ¬ S2 k)) : Two K' S1 S2 w0 w p1 D1 p2 D2 :=
  ⟨h.b1, h.b2, h.dj, h.d1, h.d2, h.bel, fun k hk' => by
    rcases hk k hk' with h' | h'
    · exact h.kp k h'
    · exact h'⟩
end

/-- Texts in order: what is read of the blocks. -/
theorem laidTo_get (f : Nat → Nat) (pend : List (Nat × ByteArray)) (disk : List ByteArray) (k j : Nat) (hk : k ≤ pend.length) (hf : ∀ i, i < k → f i = 256) (hj : j < disk.length) (hd : ∀ s ∈ disk, s.size = 256) (hp : ∀ x ∈ pend, x.1 < disk.length ∧ x.2.size = 256) :
    (laidTo f pend disk k).getD j ByteArray.empty = (match (pend.take k).reverse.find? (fun x => x.1 == j) with | some x => x.2 | none => disk.getD j ByteArray.empty) ∧ ((laidTo f pend disk k).getD j ByteArray.empty).size = 256 := by
  induction k generalizing j with
  | zero => exact ⟨rfl, by rw [laidTo, getD_lt _ _ hj]; exact hd _ (List.getElem_mem hj)⟩
  | succ k ih =>
    have hk' : k < pend.length := by omega
    have hx := hp pend[k] (List.getElem_mem hk')
    have ihx := ih pend[k].1 (by omega) (fun i hi => hf i (by omega)) hx.1
    have ihj := ih j (by omega) (fun i hi => hf i (by omega)) hj
    have hlen : (laidTo f pend disk k).length = disk.length := laidTo_length f pend disk k
    rw [laidTo_succ f pend disk k hk', take_snoc' pend k hk', List.reverse_append]
    simp only [List.reverse_cons, List.reverse_nil, List.nil_append, List.singleton_append, List.find?_cons]
    have hl : layB pend[k].2 ((laidTo f pend disk k).getD pend[k].1 ByteArray.empty) (f k) = pend[k].2 := by
      rw [hf k (by omega)]; exact layB_all _ _ hx.2 ihx.2
    unfold layOne
    rw [hl]
    by_cases e : pend[k].1 = j
    · subst e
      have : ((laidTo f pend disk k).set pend[k].1 pend[k].2).getD pend[k].1 ByteArray.empty = pend[k].2 := by simp [List.getD, hlen, hx.1]
      rw [this]
      simp [hx.2]
    · have : ((laidTo f pend disk k).set pend[k].1 pend[k].2).getD j ByteArray.empty = (laidTo f pend disk k).getD j ByteArray.empty := by simp [List.getD, e]
      rw [this]
      have e' : (pend[k].1 == j) = false := by simpa using e
      simp only [e']
      exact ihj

/-- Nothing is laid where no byte is. -/
theorem laidTo_none (f : Nat → Nat) (pend : List (Nat × ByteArray)) (disk : List ByteArray) (k : Nat) (hf : ∀ i, i < k → f i = 0) (hp : ∀ x ∈ pend, x.1 < disk.length) : laidTo f pend disk k = disk := by
  induction k with
  | zero => rfl
  | succ k ih =>
    have ih := ih (fun i hi => hf i (by omega))
    unfold laidTo
    split
    · rename_i x hx
      rw [ih]
      unfold layOne
      rw [hf k (by omega), layB_none]
      have hlt := hp x (List.mem_of_getElem? hx)
      apply List.ext_getElem?
      intro i
      rw [List.getElem?_set]
      by_cases e : x.1 = i
      · subst e; simp [List.getD, hlt]
      · simp [e]
    · exact ih

end Go.Proofs.Ytlikbfdfaccekaa

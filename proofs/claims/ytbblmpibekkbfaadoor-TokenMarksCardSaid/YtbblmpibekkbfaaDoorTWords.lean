/- The document's words of a text. -/
import Derived.Test.YtbblmpibekkbfaaDoorTStop
namespace Go.Proofs.YtbblmpibekkbfaaDoor
open Go.RowKit

theorem letterI_nat (r : Nat) : letterI (r : Int) = letterR r := by
  unfold letterI letterR
  rw [decide_eq_decide]
  constructor
  · intro h; omega
  · intro h; omega
theorem kindI_nat (r : Nat) : kindI (r : Int) = kindR r := by
  unfold kindI kindR
  rw [letterI_nat]
  by_cases h1 : letterR r = true
  · rw [if_pos h1, if_pos h1]
  · rw [if_neg h1, if_neg h1]
    by_cases h2 : (0x30 ≤ r ∧ r ≤ 0x39) ∨ (0x660 ≤ r ∧ r ≤ 0x669) ∨ (0x966 ≤ r ∧ r ≤ 0x96F)
    · rw [if_pos (by omega), if_pos h2]
    · rw [if_neg (by omega), if_neg h2]
      by_cases h3 : (9 ≤ r ∧ r ≤ 13) ∨ r = 32 ∨ r = 0x85 ∨ r = 0xA0 ∨ (0x2000 ≤ r ∧ r ≤ 0x200A) ∨ r = 0x2028 ∨ r = 0x2029 ∨ r = 0x3000
      · rw [if_pos (by omega), if_pos h3]
      · rw [if_neg (by omega), if_neg h3]
theorem isW_int {r : Int} {b : List UInt8} : isW (r, b) = (decide (0 ≤ r) && (kindI r == 1 || kindI r == 2)) := by
  unfold isW isWR
  by_cases h : 0 ≤ r
  · obtain ⟨k, rfl⟩ := Int.eq_ofNat_of_zero_le h
    rw [kindI_nat]
    rfl
  · rw [decide_eq_false h]; rfl
/-- A row of texts of one's own. -/
def TRow (B : Nat) (w : World) (v : Value) (L : List ByteArray) : Prop := w.ownsRow B 9 1 v L.length (L.map Value.string)
theorem infoT : (Tryd.prog.info? 9).map (fun i => (i.zero, i.size, i.bytes)) = some (some (.string ⟨#[]⟩), 1, 16) := by kernel_rfl
theorem TRow.below {B : Nat} {w w' : World} {v : Value} {L : List ByteArray} (h : TRow B w v L) (hb : Below w.heap.size w w') : TRow B w' v L := own_belowU h hb
theorem TRow.here {B : Nat} {w : World} {v : Value} {L : List ByteArray} (h : TRow B w v L) (h0 : 0 < L.length) : ∃ g c, v = .slice (some ⟨g, 0, none⟩) L.length c ∧ L.length ≤ c ∧ B ≤ g ∧ g < w.heap.size ∧ (∀ j (hj : j < L.length), w.cell? ⟨g, j, none⟩ = some (.string L[j])) ∧ ∀ j, w.frozen? ⟨g, j, none⟩ = false := by
  have hO := h
  rcases h.2 with ⟨_, hn⟩ | ⟨g, cap, cur, rfl, hbg, hg, hc, _⟩
  · omega
  · refine ⟨g, cap, rfl, hc, hbg, (Array.getElem?_eq_some_iff.1 hg).1, fun j hj => ?_, fun j => World.ownsRow.frozenAt hO j⟩
    rw [World.ownsRow.cellAt hO j (by omega)]
    simp [hj]
theorem TRow.store {B : Nat} {w : World} {g c : Nat} {L : List ByteArray} (h : TRow B w (.slice (some ⟨g, 0, none⟩) L.length c) L) (j : Nat) (s : ByteArray) : TRow B (w.setCell ⟨g, j, none⟩ (.string s)) (.slice (some ⟨g, 0, none⟩) L.length c) (L.set j s) := by
  have := (World.ownsRow.stored h j (.string s)).1
  unfold TRow
  rw [List.length_set, List.map_set]
  exact this
/-- A word as it stands there. -/
def flatG (g : List It) : ByteArray := utxt (g.flatMap (·.2))
theorem putLast_flat (x : It) : ∀ o : List (List It), o ≠ [] → (putLast x o).map flatG = (o.map flatG).set (o.length - 1) ((o.map flatG).getD (o.length - 1) ⟨#[]⟩ ++ utxt x.2)
  | [], h => absurd rfl h
  | [g], _ => by
    show [flatG (g ++ [x])] = [flatG g ++ utxt x.2]
    unfold flatG
    rw [utxt_app, List.flatMap_append]
    simp
  | g :: h :: r, _ => by
    have := putLast_flat x (h :: r) (by simp)
    show flatG g :: (putLast x (h :: r)).map flatG = _
    rw [this]
    simp
def wordsL (L : List UInt8) : List ByteArray := (grps (cut L)).map flatG
end Go.Proofs.YtbblmpibekkbfaaDoor

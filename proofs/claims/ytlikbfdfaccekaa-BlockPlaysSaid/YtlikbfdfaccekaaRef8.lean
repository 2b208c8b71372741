/- What sameWrites answers of two rows of writes that say the same; a device and the document's device beside one another. -/
import Derived.Test.YtlikbfdfaccekaaRef7
import Derived.Deep.QuietTactic
import Derived.BigQuiet
namespace Go.Proofs.Ytlikbfdfaccekaa
open Go.RowKit

/-- The slice value v says the writes l. -/
def Wrs (w : World) (v : Value) (l : List (Nat × ByteArray)) : Prop :=
  ∃ ao cap, v = .slice ao l.length cap ∧ l.length ≤ 1000000 ∧ (l = [] ∨ ∃ g, ao = some ⟨g, 0, none⟩ ∧ ∀ i (h : i < l.length), w.cell? ⟨g, i * 2, none⟩ = some (.int .i64 (l[i]).1) ∧ w.cell? ⟨g, i * 2 + 1, none⟩ = some (.string (l[i]).2))

theorem Wrs.of_own {w : World} {B : Nat} {v : Value} {n : Nat} {l : List (Nat × ByteArray)} (h : w.ownsRow B 62 2 v n (flatW l)) (hl : l.length ≤ 1000000) : Wrs w v l := by
  have hn : n = l.length := by have := h.1; rw [flatW_length] at this; omega
  subst hn
  rcases h.2 with ⟨rfl, h0⟩ | ⟨g, cap, cur, rfl, _⟩
  · refine ⟨none, 0, by rw [h0], hl, .inl (List.eq_nil_of_length_eq_zero h0)⟩
  · refine ⟨some ⟨g, 0, none⟩, cap, rfl, hl, .inr ⟨g, rfl, fun i hi => ?_⟩⟩
    have h := h.cells (g := g) rfl
    have hadd : ∀ j, (⟨g, 0, none⟩ : Addr).add j = ⟨g, j, none⟩ := fun j => by unfold Addr.add; split <;> simp_all
    have h0 := h (i * 2) _ (flatW_fst l i hi)
    have h1 := h (i * 2 + 1) _ (flatW_snd l i hi)
    rw [hadd] at h0 h1
    exact ⟨h0, h1⟩
theorem Wrs.kept {w w' : World} {v : Value} {l : List (Nat × ByteArray)} (h : Wrs w v l) (hk : ∀ k, v.ownBlock = some k → k < w.heap.size → w'.heap[k]? = w.heap[k]?) : Wrs w' v l := by
  obtain ⟨ao, cap, rfl, hl, hc⟩ := h
  refine ⟨ao, cap, rfl, hl, ?_⟩
  rcases hc with hc | ⟨g, rfl, hc⟩
  · exact .inl hc
  · refine .inr ⟨g, rfl, fun i hi => ?_⟩
    have := hc i hi
    have e := hk g rfl (World.block_lt_of_cell? w _ this.1)
    exact ⟨by rw [World.cell?_of_block (w := w) e]; exact this.1, by rw [World.cell?_of_block (w := w) e]; exact this.2⟩
theorem Wrs.below {w w' : World} {v : Value} {l : List (Nat × ByteArray)} (h : Wrs w v l) (hb : Below w.heap.size w w') : Wrs w' v l := h.kept (fun k _ hk => hb.block k hk)

set_option maxHeartbeats 1000000 in
theorem sameW_any (v1 v2 : Value) (l : List (Nat × ByteArray)) (w : World) (h1 : Wrs w v1 l) (h2 : Wrs w v2 l) :
    Calls Try.prog 19 #[v1, v2] w fun e w' => e = .returned (.bool true) ∧ Below w.heap.size w w' := by
  obtain ⟨ao1, cap1, rfl, hl, hc1⟩ := h1
  obtain ⟨ao2, cap2, rfl, _, hc2⟩ := h2
  have HC : Hid (∀ k (h : k < l.length), ∃ g1 g2, ao1 = some ⟨g1, 0, none⟩ ∧ ao2 = some ⟨g2, 0, none⟩ ∧ w.cell? ⟨g1, k * 2, none⟩ = some (.int .i64 (l[k]).1) ∧ w.cell? ⟨g1, k * 2 + 1, none⟩ = some (.string (l[k]).2) ∧ w.cell? ⟨g2, k * 2, none⟩ = some (.int .i64 (l[k]).1) ∧ w.cell? ⟨g2, k * 2 + 1, none⟩ = some (.string (l[k]).2)) := by
    intro k hk
    rcases hc1 with rfl | ⟨g1, e1, hc1⟩
    · simp at hk
    · rcases hc2 with rfl | ⟨g2, e2, hc2⟩
      · simp at hk
      · exact ⟨g1, g2, e1, e2, (hc1 k hk).1, (hc1 k hk).2, (hc2 k hk).1, (hc2 k hk).2⟩
  clear hc1 hc2
  obtain ⟨n, hn⟩ : ∃ n, l.length = n := ⟨_, rfl⟩
  have HN := Lib.hid hn
  rw [hn] at hl ⊢
  clear hn
  go_enter Try.func19, Try.ntmps19
  go_wp2_with fail
  go_loopw [5] (fun i wr => ∃ k q : Nat, k ≤ n ∧ i = .int .i64 k ∧ wr = w.drewN q) (fun i _ => n - (intOf i).toNat)
  case atStart => exact ⟨0, 0, Nat.zero_le _, rfl, rfl⟩
  case round =>
    obtain ⟨k, q, hk, rfl, rfl⟩ := hrel
    by_cases hlt : k < n
    · obtain ⟨g1, g2, rfl, rfl, c1, c1', c2, c2'⟩ := HC.out k (by rw [HN.out]; exact hlt)
      generalize (l[k]'(by rw [HN.out]; exact hlt)) = X at *
      obtain ⟨xb, xs⟩ := X
      simp only at c1 c1' c2 c2'
      have hkz : (k : Int) < (n : Int) := by omega
      have hk0 : (0 : Int) ≤ (k : Int) := by omega
      go_wp2
      go_quiet (fail)
      go_wp2
      go_roundw
      case rel => exact ⟨k + 1, _, by omega, by go_num, rfl⟩
      case measure => simp [intOf]; omega
    · go_wp2
      go_ret
      exact ⟨rfl, below_drewN (Below.refl _ _) q⟩

end Go.Proofs.Ytlikbfdfaccekaa

/- One device beside rows of texts; and, in plain lists, what a torn write leaves. -/
import Derived.Test.YtlikbfdfaccekaaKeeps
namespace Go.Proofs.Ytlikbfdfaccekaa
open Go.RowKit

/-- A device of one's own, and blocks K that are not its. -/
structure One (K S : Nat → Prop) (w0 w : World) (p : Nat) (D : DevS) : Prop where
  b : ∀ k, S k → w0.heap.size ≤ k
  d : Stands S w p D
  bel : Below w0.heap.size w0 w
  kp : ∀ k, K k → k < w.heap.size ∧ ¬ S k

section
variable {K S : Nat → Prop} {w0 w w' : World} {p : Nat} {D D' : DevS}
theorem One.of_at (h : At w0 w p D) : ∃ S, One (fun _ => False) S w0 w p D := by
  obtain ⟨S, h1, h2, h3⟩ := h
  exact ⟨S, h1, h2, h3, fun _ h => h.elim⟩
theorem One.below (h : One K S w0 w p D) (hb : Below w.heap.size w w') : One K S w0 w' p D :=
  ⟨h.b, h.d.below hb, h.bel.trans (hb.mono h.bel.size), fun k hk => ⟨Nat.lt_of_lt_of_le (h.kp k hk).1 hb.size, (h.kp k hk).2⟩⟩
theorem One.step (h : One K S w0 w p D) (hl : Leaves S w w' p D') : (∃ S', One K S' w0 w' p D') ∧ ∀ k, K k → w'.heap[k]? = w.heap[k]? := by
  obtain ⟨S', hS', hst, ho⟩ := hl
  refine ⟨⟨S', ?_, hst, h.bel.trans (ho.below h.bel.size (fun k _ hk => h.b k hk)), ?_⟩, fun k hk => ho.block k (h.kp k hk).1 (h.kp k hk).2⟩
  · intro k hk
    rcases hS' k hk with hs | hs
    · exact h.b k hs
    · exact Nat.le_trans h.bel.size hs
  · intro k hk
    refine ⟨Nat.lt_of_lt_of_le (h.kp k hk).1 ho.size, fun hs => ?_⟩
    rcases hS' k hs with hs | hs
    · exact (h.kp k hk).2 hs
    · have := (h.kp k hk).1; omega
theorem One.more {K' : Nat → Prop} (h : One K S w0 w p D) (hk : ∀ k, K' k → K k ∨ (k < w.heap.size ∧ ¬ S k)) : One K' S w0 w p D :=
  ⟨h.b, h.d, h.bel, fun k hk' => by
    rcases hk k hk' with h' | h'
    · exact h.kp k h'
    · exact h'⟩
theorem One.diskP (nd : Nat) (hnd : D.disk.length = nd) (h : One K S w0 w p D) :
    Calls Try.prog 18 #[.pointer (some ⟨p, 0, none⟩)] w fun e w' => ∃ g cap, e = .returned (.slice (some ⟨g, 0, none⟩) nd cap) ∧ (∀ i, i < nd → w'.cell? ⟨g, i, none⟩ = some (.string (D.disk.getD i ByteArray.empty))) ∧ (w.heap.size ≤ g ∧ g < w'.heap.size) ∧ Below w.heap.size w w' := by
  subst hnd
  refine (disk_any h.d).mono fun e w' ⟨v, he, hown, hb⟩ => ?_
  obtain ⟨g, cap, rfl⟩ := own_pos h.d.ok.some hown
  exact ⟨g, cap, he, fun i hi => by rw [World.ownsRow.cellAt hown i (by omega)]; simp [hi], hown.lt g rfl, hb⟩
end

theorem ot_w (F : DevS) (j : Nat) (X : ByteArray) (hX : X.size = 256) (hp : F.pend = []) (hd : F.dead = false) (hf : F.fused = false) (hj : j < F.disk.length) : F.wr j X = (0, { F with pend := [(j, X)] }) := by
  have hck : F.ck j = 0 := by unfold DevS.ck; rw [hd]; simp; omega
  have htk : F.tk = (true, F) := by unfold DevS.tk; rw [hf]; simp
  unfold DevS.wr
  rw [hck, htk, hp]
  simp [hX]
theorem ot_r (F : DevS) (j : Nat) (X : ByteArray) (hd : F.dead = false) (hj : j < F.disk.length) (hp : F.pend = [(j, X)]) : F.rd j = (X, 0) := by
  rw [rd_alive F j hd hj]
  unfold DevS.rdB
  rw [hp]; simp
theorem ot_c (F : DevS) (j : Nat) (X : ByteArray) (kl : List Bool) (torn cut : Int) (hp : F.pend = [(j, X)]) :
    (F.crash kl torn cut).disk = F.disk.set j (layB X (F.disk.getD j ByteArray.empty) (left kl torn (min (max cut 0) 256).toNat 0)) := by
  unfold DevS.crash
  rw [hp]
  simp [laidTo, layOne]

theorem app_byte (X O : ByteArray) (m c : Nat) (hX : X.size = 256) (hO : O.size = 256) (hm : m ≤ 256) (hc : c < 256) (h : c < (X.extract 0 m ++ O.extract m O.size).size) :
    (X.extract 0 m ++ O.extract m O.size)[c]'h = if c < m then X[c]'(by omega) else O[c]'(by omega) := by
  have hx : (X.extract 0 m).size = m := by simp [hX]; omega
  by_cases hcm : c < m
  · rw [if_pos hcm, ByteArray.getElem_append_left (by omega), ByteArray.getElem_extract]
    simp
  · rw [if_neg hcm, ByteArray.getElem_append_right (by omega), ByteArray.getElem_extract]
    congr 1; omega
/-- Byte by byte: X's first m, then the old ones. -/
theorem layB_byte (X O : ByteArray) (m c : Nat) (hX : X.size = 256) (hO : O.size = 256) (hm : m ≤ 256) (hc : c < 256) (h : c < (layB X O m).size) :
    (layB X O m)[c] = if c < m then X[c]'(by omega) else O[c]'(by omega) := app_byte X O m c hX hO hm hc h

theorem x_byte (c : Nat) (h : c < (textOf fun _ => 120).size) : ((textOf fun _ => 120)[c]).toNat = 120 := by
  have hs : (textOf fun _ => 120).size = 256 := textOf_size _
  have : ∀ c : Fin 256, ((textOf fun _ => 120).data.toList.getD c.1 0).toNat = 120 := by decide +kernel
  have h2 := this ⟨c, by omega⟩
  have hl : c < (textOf fun _ => 120).data.toList.length := by simpa using h
  simp only [List.getD, List.getElem?_eq_getElem hl, Option.getD_some] at h2
  exact h2

end Go.Proofs.Ytlikbfdfaccekaa

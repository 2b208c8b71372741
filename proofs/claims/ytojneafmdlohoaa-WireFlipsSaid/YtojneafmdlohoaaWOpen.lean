/- Arguments that came in, read: numbers, texts, slices of numbers and of texts. -/
import Derived.Test.YtojneafmdlohoaaLaw
import Derived.Test.YtojneafmdlohoaaWArgs
import Derived.SliceStrings
import Derived.Deep.Slices
namespace Go.Proofs.Ytojneafmdlohoaa
open Go.ChangeShapes Go.WideShapes Go.ChangeAt Go.RowKit Go.Deep

theorem nat_u32 {k : Int} (h : (Lit.int .u32 k).wf = true) : ∃ n : Nat, k = (n : Int) ∧ n < 4294967296 := by
  have h2 : 0 ≤ k ∧ k ≤ 4294967295 := by simpa [Lit.wf, IntKind.min, IntKind.max, IntKind.signed, IntKind.bits] using h
  exact ⟨k.toNat, by omega, by omega⟩
theorem nat_u64 {k : Int} (h : (Lit.int .u64 k).wf = true) : ∃ n : Nat, k = (n : Int) ∧ n < 18446744073709551616 := by
  have h2 : 0 ≤ k ∧ k ≤ 18446744073709551615 := by simpa [Lit.wf, IntKind.min, IntKind.max, IntKind.signed, IntKind.bits] using h
  exact ⟨k.toNat, by omega, by omega⟩
theorem wf_i64' {k : Int} (h : (Lit.int .i64 k).wf = true) : -9223372036854775808 ≤ k ∧ k ≤ 9223372036854775807 := by
  simpa [Lit.wf, IntKind.min, IntKind.max, IntKind.signed, IntKind.bits] using h
theorem addr_plain {w : World} {a : Addr} {v : Value} (h : w.cell? a = some v) : ∃ b off, a = ⟨b, off, none⟩ := by
  obtain ⟨b, off, spot⟩ := a
  unfold World.cell? at h
  split at h
  · cases spot with
    | none => exact ⟨b, off, rfl⟩
    | some s => simp at h
  · cases h
theorem add_plain (b off j : Nat) : (⟨b, off, none⟩ : Addr).add j = ⟨b, off + j, none⟩ := by unfold Addr.add; split <;> simp_all
theorem cells_u64 : Try.prog.cellsOf 27 = 1 := by kernel_rfl
theorem cells_str : Try.prog.cellsOf 9 = 1 := by kernel_rfl

section
variable {H : Type} {enc : TypeId × Value → H} {W : World} {held : Bool}
theorem open_nums {v : Value} {d : DataW H} {ps : List MemPlace} {r : Reach} {b0 : Nat} (hv : Value.okWide Try.prog W r b0 44 v) (h : DataW.Trod enc Try.prog W 0 (fun _ => true) held 44 v d ps) : ∃ L, NumsA W v L := by
  obtain ⟨ao, len, cap, rfl⟩ := okWide_slice Try.underlying44 hv
  obtain ⟨fuel, hf⟩ := h
  have hf' : DataW.trod enc Try.prog W 0 (fun _ => true) held fuel 44 [.slice ao len cap] = some (d, ps) := by simpa [Value.cells] using hf
  rcases open_ints Try.underlying44 Try.underlying27 cells_u64 hf' with ⟨hcs, _⟩ | ⟨a, len', cap', zs, hcs, _, hl, hm, hz, _, hcell, hw⟩
  · simp only [List.cons.injEq, and_true] at hcs
    cases hcs
    exact ⟨[], none, 0, rfl, (fun x hx => by cases hx), .inl rfl⟩
  · simp only [List.cons.injEq, and_true] at hcs
    cases hcs
    simp only [if_true] at hz
    have hL : ((zs.take len).map Int.toNat).length = len := by simp; omega
    refine ⟨(zs.take len).map Int.toNat, some a, cap, by rw [hL], ?_, ?_⟩
    · intro x hx
      obtain ⟨z, hz1, rfl⟩ := List.mem_map.1 hx
      obtain ⟨n, rfl, hn⟩ := nat_u64 (hw z (List.mem_of_mem_take hz1))
      simpa using hn
    · by_cases h0 : len = 0
      · left; subst h0; simp
      · right
        have hc0 := hcell 0 (by omega)
        obtain ⟨b, off, hab⟩ := addr_plain hc0
        have ha : a = ⟨b, off, none⟩ := by simpa [Addr.add] using hab
        subst ha
        refine ⟨b, off, rfl, World.block_lt_of_cell? W _ hc0, fun i hi => ?_⟩
        have hi' : i < len := by rw [hL] at hi; exact hi
        have hz' : i < zs.length := by omega
        have := hcell i hz'
        rw [add_plain] at this
        rw [this]
        obtain ⟨n, hn, _⟩ := nat_u64 (hw zs[i] (List.getElem_mem hz'))
        simp [List.getD, hz', hn]
theorem open_strs {v : Value} {d : DataW H} {ps : List MemPlace} {r : Reach} {b0 : Nat} (hv : Value.okWide Try.prog W r b0 46 v) (h : DataW.Trod enc Try.prog W 0 (fun _ => true) held 46 v d ps) : ∃ L, StrsA W v L := by
  obtain ⟨ao, len, cap, rfl⟩ := okWide_slice Try.underlying46 hv
  obtain ⟨fuel, hf⟩ := h
  have hf' : DataW.trod enc Try.prog W 0 (fun _ => true) held fuel 46 [.slice ao len cap] = some (d, ps) := by simpa [Value.cells] using hf
  rcases open_strings Try.underlying46 Try.underlying9 cells_str hf' with ⟨hcs, _⟩ | ⟨a, len', cap', ss, hcs, _, hl, hm, hz, _, hcell, hw⟩
  · simp only [List.cons.injEq, and_true] at hcs
    cases hcs
    exact ⟨[], none, 0, rfl, by simp, (fun x hx => by cases hx), .inl rfl⟩
  · simp only [List.cons.injEq, and_true] at hcs
    cases hcs
    simp only [if_true] at hz
    have hL : (ss.take len).length = len := by simp; omega
    refine ⟨ss.take len, some a, cap, by rw [hL], by omega, fun x hx => hw x (List.mem_of_mem_take hx), ?_⟩
    by_cases h0 : len = 0
    · left; subst h0; simp
    · right
      have hc0 := hcell 0 (by omega)
      obtain ⟨b, off, hab⟩ := addr_plain hc0
      have ha : a = ⟨b, off, none⟩ := by simpa [Addr.add] using hab
      subst ha
      refine ⟨b, off, rfl, World.block_lt_of_cell? W _ hc0, fun i hi => ?_⟩
      have hi' : i < len := by rw [hL] at hi; exact hi
      have hz' : i < ss.length := by omega
      have := hcell i hz'
      rw [add_plain] at this
      rw [this]
      simp [List.getD, hz']
end
end Go.Proofs.Ytojneafmdlohoaa

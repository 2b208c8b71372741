/- The acts of the statements: how a list of them lies in memory, and what pick, small and does answer. -/
import Derived.Test.YtlikbfdfaccekaaShown2
import Derived.Deep.RegionHeld3
namespace Go.Proofs.Ytlikbfdfaccekaa
open Go.RowKit

/-- An act, as it is handed in. -/
structure ActS where
  op : Int
  at_ : Int
  n : Int
  keep : List Bool
  kao : Option Addr
  kcap : Nat
  data : ByteArray

def ActS.kv (a : ActS) : Value := .slice a.kao a.keep.length a.kcap
def ActS.cells (a : ActS) : List Value := [.int .i64 a.op, .int .i64 a.at_, .int .i64 a.n, a.kv, .string a.data]
/-- Its numbers are Go's; its bools lie in w0. -/
structure ActS.Ok (w0 : World) (a : ActS) : Prop where
  op0 : -9223372036854775808 ≤ a.op ∧ a.op ≤ 9223372036854775807
  at0 : -9223372036854775808 ≤ a.at_ ∧ a.at_ ≤ 9223372036854775807
  n0 : -9223372036854775808 ≤ a.n ∧ a.n ≤ 9223372036854775807
  klen : a.keep.length ≤ 9223372036854775807
  dlen : a.data.size ≤ 9223372036854775807
  keeps : a.keep = [] ∨ ∃ g off, a.kao = some ⟨g, off, none⟩ ∧ g < w0.heap.size ∧ ∀ i (h : i < a.keep.length), w0.cell? ⟨g, off + i, none⟩ = some (.bool a.keep[i])

/-- The slice value v says the acts L, in w0. -/
def Acts (w0 : World) (v : Value) (L : List ActS) : Prop :=
  (∀ a ∈ L, a.Ok w0) ∧ L.length ≤ 9223372036854775807 ∧ ∃ ao cap, v = .slice ao L.length cap ∧
    ∀ i (h : i < L.length), ∃ g off, ao = some ⟨g, off, none⟩ ∧ g < w0.heap.size ∧ ∀ j u, (L[i]).cells[j]? = some u → w0.cell? ⟨g, off + i * 5 + j, none⟩ = some u

def pickI (c n : Int) : Int := (if c < 0 then -(c + 1) else c) % n
theorem pickI_lt (c n : Int) (hn : 0 < n) : 0 ≤ pickI c n ∧ pickI c n < n := ⟨Int.emod_nonneg _ (by omega), Int.emod_lt_of_pos _ hn⟩

set_option maxHeartbeats 400000 in
theorem pick_any (c n : Int) (w : World) (hc : -9223372036854775808 ≤ c ∧ c ≤ 9223372036854775807) (hn : 0 < n ∧ n ≤ 1000000) :
    Calls Try.prog 13 #[.int .i64 c, .int .i64 n] w fun e w' => e = .returned (.int .i64 (pickI c n)) ∧ w = w' := by
  have hne : (n == 0) = false := by simp; omega
  have hm1 : (n == -1) = false := by simp; omega
  by_cases h : c < 0
  · have HP : Hid (pickI c n = -((c + 1).tmod n)) := by
      show pickI c n = _; unfold pickI
      rw [if_pos h, ← Int.neg_tmod, Int.tmod_eq_emod_of_nonneg (by omega)]
    go_enter Try.func13, Try.ntmps13
    go_wp2
    go_ret
    exact ⟨by rw [HP.out]; rfl, rfl⟩
  · have HP : Hid (pickI c n = c % n) := by show pickI c n = _; unfold pickI; rw [if_neg h]
    have h0 : 0 ≤ c := by omega
    go_enter Try.func13, Try.ntmps13
    go_wp2
    go_ret
    exact ⟨by rw [HP.out]; rfl, rfl⟩

/-- Not too many acts, none too long. -/
def smallB (L : List ActS) : Bool := decide (L.length ≤ 60 ∧ ∀ a ∈ L, a.data.size ≤ 600 ∧ a.keep.length ≤ 200)

section
variable {w0 w : World} {v : Value} {L : List ActS}
theorem Acts.cell (h : Acts w0 v L) (hb : Below w0.heap.size w0 w) (i : Nat) (hi : i < L.length) :
    ∃ g off cap, v = .slice (some ⟨g, off, none⟩) L.length cap ∧ w.cell? ⟨g, off + i * 5, none⟩ = some (.int .i64 L[i].op) ∧ w.cell? ⟨g, off + i * 5 + 1, none⟩ = some (.int .i64 L[i].at_) ∧ w.cell? ⟨g, off + i * 5 + 2, none⟩ = some (.int .i64 L[i].n) ∧
      w.cell? ⟨g, off + i * 5 + 3, none⟩ = some (.slice L[i].kao L[i].keep.length L[i].kcap) ∧ w.cell? ⟨g, off + i * 5 + 4, none⟩ = some (.string L[i].data) := by
  obtain ⟨_, _, ao, cap, rfl, hc⟩ := h
  obtain ⟨g, off, rfl, hg, hc⟩ := hc i hi
  have hk : ∀ o, w.cell? ⟨g, o, none⟩ = w0.cell? ⟨g, o, none⟩ := fun o => hb.cell (p := ⟨g, o, none⟩) hg
  exact ⟨g, off, cap, rfl, (hk _).trans (hc 0 _ rfl), (hk _).trans (hc 1 _ rfl), (hk _).trans (hc 2 _ rfl), (hk _).trans (hc 3 _ rfl), (hk _).trans (hc 4 _ rfl)⟩

theorem take_snoc' {α : Type} (L : List α) (k : Nat) (h : k < L.length) : L.take (k + 1) = L.take k ++ [L[k]] := by
  rw [List.take_succ_eq_append_getElem h]

set_option maxHeartbeats 2000000 in
theorem small_any (h : Acts w0 v L) (hb : Below w0.heap.size w0 w) :
    Calls Try.prog 10 #[v] w fun e w' => e = .returned (.bool (smallB L)) ∧ w = w' := by
  obtain ⟨ao, cap, hv⟩ : ∃ ao cap, v = .slice ao L.length cap := by obtain ⟨_, _, ao, cap, hv, _⟩ := h; exact ⟨ao, cap, hv⟩
  have hlen := h.2.1
  by_cases hl : 60 < L.length
  · have HS : Hid (smallB L = false) := by show smallB L = false; unfold smallB; simp; omega
    subst hv
    clear h
    generalize L.length = n at *
    go_enter Try.func10, Try.ntmps10
    go_wp2
    go_ret
    exact ⟨by rw [HS.out]; rfl, rfl⟩
  · have HL := Lib.hid hv
    have hl' : L.length ≤ 60 := by omega
    have HA := Lib.hid h; have HB := Lib.hid hb
    clear h hb hl
    obtain ⟨n, hn⟩ : ∃ n, L.length = n := ⟨_, rfl⟩
    have HN := Lib.hid hn
    rw [hn] at hlen hl' hv
    clear hn
    subst hv
    go_enter Try.func10, Try.ntmps10
    go_wp2_with fail
    go_loop [3] (fun i => ∃ k : Nat, k ≤ n ∧ i = .int .i64 k ∧ Hid (∀ a ∈ L.take k, a.data.size ≤ 600 ∧ a.keep.length ≤ 200)) (fun i => n - (intOf i).toNat)
    case atStart => exact ⟨0, Nat.zero_le _, rfl, fun a ha => by simp at ha⟩
    case round =>
      obtain ⟨k, hk, rfl, HP⟩ := hrel
      by_cases hlt : k < n
      · have hkL : k < L.length := by rw [HN.out]; exact hlt
        obtain ⟨g, off, cap', hv, c0, c1, c2, c3, c4⟩ := HA.out.cell HB.out k hkL
        obtain ⟨rfl, _, rfl⟩ : ao = some ⟨g, off, none⟩ ∧ n = L.length ∧ cap = cap' := by simpa using hv
        have HT := Lib.hid (take_snoc' L k hkL)
        have HM : Hid (L[k] ∈ L) := List.getElem_mem hkL
        have hda := (HA.out.1 L[k] (List.getElem_mem hkL)).dlen
        have hka := (HA.out.1 L[k] (List.getElem_mem hkL)).klen
        clear hv c0 c1 c2
        generalize L[k] = a at *
        by_cases h1 : a.data.size ≤ 600
        · by_cases h2 : a.keep.length ≤ 200
          · go_wp2
            go_round
            case rel =>
              refine ⟨k + 1, by omega, by go_num, fun b hb => ?_⟩
              rw [HT.out, List.mem_append, List.mem_singleton] at hb
              rcases hb with hb | rfl
              · exact HP.out b hb
              · exact ⟨h1, h2⟩
            case measure => simp [intOf]; omega
          · have HS : Hid (smallB L = false) := by
              show smallB L = false; unfold smallB; simp only [decide_eq_false_iff_not]
              intro hh; exact h2 (hh.2 a HM.out).2
            go_wp2
            go_ret
            exact ⟨by rw [HS.out]; rfl, rfl⟩
        · have HS : Hid (smallB L = false) := by
            show smallB L = false; unfold smallB; simp only [decide_eq_false_iff_not]
            intro hh; exact h1 (hh.2 a HM.out).1
          go_wp2
          go_ret
          exact ⟨by rw [HS.out]; rfl, rfl⟩
      · have HS : Hid (smallB L = true) := by
          show smallB L = true; unfold smallB; simp only [decide_eq_true_eq]
          refine ⟨by rw [HN.out]; exact hl', fun a ha => HP.out a ?_⟩
          rw [List.take_of_length_le (by rw [HN.out]; omega)]; exact ha
        go_wp2
        go_ret
        exact ⟨by rw [HS.out]; rfl, rfl⟩
end

end Go.Proofs.Ytlikbfdfaccekaa

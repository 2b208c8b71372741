/- What made answers: a new device behind all the acts of a list, in new blocks. -/
import Derived.Test.YtlikbfdfaccekaaDoes
namespace Go.Proofs.Ytlikbfdfaccekaa
open Go.RowKit

theorem ActS.Ok.mono {w0 w : World} {a : ActS} (h : a.Ok w0) (hb : Below w0.heap.size w0 w) : a.Ok w := by
  refine ⟨h.op0, h.at0, h.n0, h.klen, h.dlen, ?_⟩
  rcases h.keeps with h | ⟨g, off, e, hg, hc⟩
  · exact .inl h
  · exact .inr ⟨g, off, e, Nat.lt_of_lt_of_le hg hb.size, fun i hi => (hb.cell (p := ⟨g, off + i, none⟩) hg).trans (hc i hi)⟩
theorem Acts.mono {w0 w : World} {v : Value} {L : List ActS} (h : Acts w0 v L) (hb : Below w0.heap.size w0 w) : Acts w v L := by
  obtain ⟨h1, h2, ao, cap, hv, hc⟩ := h
  refine ⟨fun a ha => (h1 a ha).mono hb, h2, ao, cap, hv, fun i hi => ?_⟩
  obtain ⟨g, off, e, hg, hc⟩ := hc i hi
  exact ⟨g, off, e, Nat.lt_of_lt_of_le hg hb.size, fun j u hu => (hb.cell (p := ⟨g, off + i * 5 + j, none⟩) hg).trans (hc j u hu)⟩
theorem small_len {L : List ActS} (h : smallB L = true) : L.length ≤ 60 := by unfold smallB at h; simp at h; exact h.1
theorem small_act {L : List ActS} (h : smallB L = true) (a : ActS) (ha : a ∈ L) : a.data.size ≤ 600 ∧ a.keep.length ≤ 200 := by unfold smallB at h; simp at h; exact h.2 a ha

/-- The device that made makes. -/
def madeD (n : Int) (L : List ActS) : DevS := (DevS.made (1 + pickI n 12).toNat).runs L
theorem madeD_len (n : Int) (L : List ActS) : (madeD n L).pend.length ≤ L.length := by
  have := (DevS.made (1 + pickI n 12).toNat).runs_len L
  have e : (DevS.made (1 + pickI n 12).toNat).pend.length = 0 := rfl
  unfold madeD; omega

set_option maxHeartbeats 2000000 in
theorem made_any (n : Int) (v : Value) (L : List ActS) (w : World) (hn : -9223372036854775808 ≤ n ∧ n ≤ 9223372036854775807) (h : Acts w v L) (hsm : smallB L = true) :
    Calls Try.prog 22 #[.int .i64 n, v] w fun e w' => ∃ p, e = .returned (.tuple #[.pointer (some ⟨p, 0, none⟩), .bool true]) ∧ At w w' p (madeD n L) := by
  obtain ⟨ao, cap, hv⟩ : ∃ ao cap, v = .slice ao L.length cap := by obtain ⟨_, _, ao, cap, hv, _⟩ := h; exact ⟨ao, cap, hv⟩
  have hl := small_len hsm
  have HA := Lib.hid h
  have HS := Lib.hid hsm
  have hp := pickI_lt n 12 (by omega)
  have HP := Lib.hid (pick_any n 12 w hn (by omega))
  have HM : Hid (∀ l, (DevS.made (1 + pickI n 12).toNat).runs l = madeD n l) := fun _ => rfl
  have HN0 : Hid (DevS.made (1 + pickI n 12).toNat = madeD n []) := rfl
  clear h hsm
  obtain ⟨m, hm⟩ : ∃ m, L.length = m := ⟨_, rfl⟩
  have HL := Lib.hid hm
  rw [hm] at hv hl
  clear hm
  subst hv
  have C := Lib.hid (At.new (w0 := w) (w := w) (1 + pickI n 12) (by omega) (Below.refl _ _))
  rw [HN0.out] at C
  generalize pickI n 12 = pn at *
  go_enter Try.func22, Try.ntmps22
  go_wp2_with fail
  refine HP.out.mono ?_
  rintro e w' ⟨rfl, rfl⟩
  go_wp2_with fail
  refine C.out.mono ?_
  rintro e w1 ⟨p, rfl, h1⟩
  have H1 := Lib.hid h1; clear h1
  go_wp2_with fail
  go_loopw [8] (fun i wr => ∃ k : Nat, k ≤ m ∧ i = .int .i64 k ∧ Hid (At w wr p (madeD n (L.take k)))) (fun i _ => m - (intOf i).toNat)
  case atStart => exact ⟨0, Nat.zero_le _, rfl, H1⟩
  case round =>
    obtain ⟨k, hk, rfl, HK⟩ := hrel
    by_cases hlt : k < m
    · have hkL : k < L.length := by rw [HL.out]; exact hlt
      obtain ⟨g, off, cap', hv, c0, c1, c2, c3, c4⟩ := HA.out.cell HK.out.bel k hkL
      obtain ⟨rfl, hml, rfl⟩ : ao = some ⟨g, off, none⟩ ∧ m = L.length ∧ cap = cap' := by simpa using hv
      clear hml
      have hsa := small_act HS.out L[k] (List.getElem_mem hkL)
      have CD := Lib.hid (HK.out.does L[k] (by have := madeD_len n (L.take k); simp at this; omega) hsa.1 hsa.2 (HA.out.1 _ (List.getElem_mem hkL)))
      have HT : Hid (madeD n (L.take (k + 1)) = ((madeD n (L.take k)).does L[k]).2) := by
        show madeD n (L.take (k + 1)) = _
        rw [take_snoc' L k hkL]; exact DevS.runs_snoc _ _ _
      clear hv hsa
      generalize L[k] = a at *
      go_wp2_with fail
      refine CD.out.mono ?_
      rintro e w2 ⟨rfl, h2⟩
      have H2 := Lib.hid h2; clear h2
      go_wp2
      go_roundw
      case rel => exact ⟨k + 1, by omega, by go_num, by show At _ _ _ _; rw [HT.out]; exact H2.out⟩
      case measure => simp [intOf]; omega
    · have hkm : k = m := by omega
      have HF : Hid (At w wr p (madeD n L)) := by
        have := HK.out
        rw [List.take_of_length_le (by rw [HL.out]; omega)] at this
        exact this
      clear hkm
      go_wp2
      go_ret2
      exact ⟨p, rfl, HF.out⟩

end Go.Proofs.Ytlikbfdfaccekaa

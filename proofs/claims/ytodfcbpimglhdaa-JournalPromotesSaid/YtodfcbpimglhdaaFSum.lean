/- What sum answers: the sum of a head's first 248 bytes and of all data. -/
import Derived.Test.YtodfcbpimglhdaaFBase
namespace Go.Proofs.Ytodfcbpimglhdaa.Fr
open Go.RowKit

theorem StrsAt.tail {w : World} {b off : Nat} {s : ByteArray} {D : List ByteArray} (h : StrsAt w b off (s :: D)) : StrsAt w b (off + 1) D := fun j hj => by
  have := h (j + 1) (by simpa using hj)
  rw [show off + 1 + j = off + (j + 1) by omega, this]; rfl
theorem joinB_cons (s : ByteArray) (D : List ByteArray) : joinB (s :: D) = s.data.toList ++ joinB D := by unfold joinB; rw [List.flatMap_cons]

set_option maxRecDepth 100000 in
set_option maxHeartbeats 1000000 in
theorem sum_any (s : ByteArray) (D : List ByteArray) (b off c : Nat) (w : World) (h1 : 1 ≤ D.length) (h2 : D.length ≤ 1000) (hc1 : D.length ≤ c) (hs : 248 ≤ s.size) (hD : ∀ d ∈ D, d.size ≤ maxLen) (hb : b < w.heap.size) (hc : StrsAt w b off (s :: D)) :
    Calls Try.prog 86 #[.slice (some ⟨b, off, none⟩) (D.length + 1) (c + 1)] w fun e w' => e = .returned (.int .u32 ((crcL (s.data.toList.take 248 ++ joinB D) : Nat) : Int)) ∧ Below w.heap.size w w' := by
  obtain ⟨i0, hi, hz0, hz1, hz2⟩ := info_parts Try.infoS
  have HZ2 := Lib.hid hz2; clear hz2
  have hc0 := hc 0 (by simp)
  simp only [Nat.add_zero, List.getElem_cons_zero] at hc0
  have HT := Lib.hid hc.tail; clear hc
  have HD := Lib.hid hD; clear hD
  have hs' : (248 : Int) ≤ (s.size : Int) := by omega
  have HX : Hid (s.extract 0 248 = bs (s.data.toList.take 248)) := by
    show s.extract 0 248 = _
    have := bs_ext s.data.toList 0 248
    rw [bs_data] at this
    rw [this, List.drop_zero]
  obtain ⟨n, hn⟩ : ∃ n, D.length = n := ⟨_, rfl⟩
  rw [hn] at h1 h2 hc1 ⊢
  have HN := Lib.hid hn; clear hn
  have hcc : (1 : Int) < (c : Int) + 1 := by omega
  obtain ⟨x, hx⟩ : ∃ x, s.extract 0 248 = x := ⟨_, rfl⟩
  go_enter Try.func86, Try.ntmps86
  have HXX := Lib.hid hx
  go_wp2_with (at_builtin; refine wpList_append_own _ rfl _ _ 22 rfl w.heap.size 9 i0 _ 1 16 Try.underlying22 hi hz0 hz1 HZ2.out rfl (by decide) _ 1 [.string x] rfl (World.ownsRow_lit w #[.string x] 1 (Nat.le_refl _) (by unfold maxLen; omega) rfl) ⟨b, off + 1, none⟩ n c (D.map Value.string) rfl (by rw [List.length_map, HN.out, Nat.mul_one]) ?c1 ?c2 ?c3 ?c4 ?c5 ?_)
  case c1 =>
    intro j u hu
    rw [add_at]
    have hj : j < D.length := by
      have := (List.getElem?_eq_some_iff.1 hu).1
      simpa using this
    have h3 : u = .string D[j] := by rw [List.getElem?_map, List.getElem?_eq_getElem hj] at hu; simpa using hu.symm
    rw [h3, ((Below.refl w.heap.size w).alloc (Nat.le_refl _) (.cells #[.string x] 9)).cell (p := ⟨b, off + 1 + j, none⟩) hb]
    exact HT.out j hj
  case c2 =>
    intro u hu
    obtain ⟨d, _, rfl⟩ := List.mem_map.1 hu
    rfl
  case c3 => unfold maxLen; omega
  case c4 => omega
  case c5 => simp
  intro v1 w1 hown hgrow _
  have HO : Hid (OwnS w.heap.size w1 v1 (x :: D)) := by
    show w1.ownsRow _ _ _ _ _ _
    rw [List.length_cons, HN.out, Nat.add_comm]
    exact hown
  have HB : Hid (Below w.heap.size w w1) := ((Below.refl _ _).alloc (Nat.le_refl _) _).grown hgrow (by simp) (fun k hk => by simp [Value.ownBlock] at hk; omega)
  clear hown hgrow
  obtain ⟨g, c2, rfl, _, _, hg, hst, _⟩ := HO.out.here (by simp)
  have HST := Lib.hid hst; clear hst
  have HG := Lib.hid hg; clear hg HO
  have C := Lib.hid (crc_some (x :: D) g 0 c2 w1 (by rw [List.length_cons, HN.out]; unfold maxLen; omega) (fun t ht => by
      rcases List.mem_cons.1 ht with rfl | ht
      · rw [← HXX.out, HX.out, bs_len, List.length_take]; unfold maxLen; omega
      · exact HD.out t ht) HST.out)
  rw [joinB_cons, ← HXX.out, HX.out, data_bs] at C
  clear hx
  go_wp2_with fail
  refine C.out.mono ?_
  rintro e w' ⟨rfl, rfl⟩
  go_wp2
  go_ret
  exact ⟨rfl, HB.out⟩
end Go.Proofs.Ytodfcbpimglhdaa.Fr

/- BlockFuses answers true for every number, every list of acts and every fuse, and changes nothing that was there: the walk. -/
import Derived.Test.YtlikbfdfaccekaaFlushes
namespace Go.Proofs.Ytlikbfdfaccekaa
open Go.RowKit

/-- Behind a fuse of 'most' turns, 'many' of them done. -/
structure Fu (D : DevS) (most many : Int) : Prop where
  fused : D.fused = true
  fuse : D.fuse = most - many
  le : many ≤ most
  dead : D.dead = true → many = most

theorem Fu.tk {D : DevS} {most many : Int} (h : Fu D most many) : (D.tk.1 = true → Fu D.tk.2 most (many + 1) ∨ D.dead = true) ∧ (D.tk.1 = false → Fu D.tk.2 most many ∧ many = most) := by
  have h1 := h.fused; have h2 := h.fuse; have h3 := h.le
  by_cases h0 : D.fuse = 0
  · have e : D.tk = (false, { D with dead := true }) := by simp [DevS.tk, h1, h0]
    rw [e]
    exact ⟨by simp, fun _ => ⟨⟨h1, h2, h3, fun _ => by omega⟩, by omega⟩⟩
  · have e : D.tk = (true, { D with fuse := D.fuse - 1 }) := by simp [DevS.tk, h1, h0]
    rw [e]
    refine ⟨fun _ => ?_, by simp⟩
    by_cases hd : D.dead = true
    · exact .inr hd
    · exact .inl ⟨h1, by simp; omega, by omega, fun hx => absurd hx hd⟩

/-- One act that is no fuse and no crash: with how many turns it leaves the fuse. -/
theorem Fu.does {D : DevS} {most many : Int} (h : Fu D most many) (a : ActS) (ho : pickI a.op 8 ≤ 5) :
    Fu (D.does a).2 most (if (D.does a).1.2 = 0 ∧ pickI a.op 8 ≠ 4 then many + 1 else many) ∧ ((D.does a).1.2 = 4 → (if (D.does a).1.2 = 0 ∧ pickI a.op 8 ≠ 4 then many + 1 else many) = most) := by
  have ht := h.tk
  unfold DevS.does
  by_cases h4 : pickI a.op 8 = 4
  · simp only [h4, if_true, ne_eq, not_true, and_false, if_false]
    refine ⟨h, fun he => ?_⟩
    unfold DevS.rd at he
    split at he
    · rename_i hc
      unfold DevS.ck at he hc
      split at he
      · exact h.dead (by assumption)
      · split at he <;> simp at he
    · simp at he
  · by_cases h5 : pickI a.op 8 = 5
    · simp only [h5, if_true]
      unfold DevS.fl
      by_cases hd : D.dead = true
      · simp [hd]; exact ⟨h, h.dead hd⟩
      · by_cases hk : D.tk.1 = false
        · simp [hd, hk]; exact ht.2 hk
        · have hk' : D.tk.1 = true := by simpa using hk
          rcases ht.1 hk' with h' | h'
          · simp [hd, hk]; exact ⟨h'.fused, h'.fuse, h'.le, h'.dead⟩
          · exact absurd h' hd
    · have h6 : ¬ pickI a.op 8 = 6 := by omega
      have h7 : ¬ pickI a.op 8 = 7 := by omega
      simp only [h4, h5, h6, h7, if_false, ne_eq, not_false_eq_true, and_true]
      unfold DevS.wr
      by_cases hc : D.ck a.at_ = 0
      · by_cases hs : a.text.size = 256
        · by_cases hk : D.tk.1 = false
          · simp [hc, hs, hk]; exact ht.2 hk
          · have hk' : D.tk.1 = true := by simpa using hk
            rcases ht.1 hk' with h' | h'
            · simp [hc, hs, hk]; exact ⟨h'.fused, h'.fuse, h'.le, h'.dead⟩
            · unfold DevS.ck at hc; rw [h'] at hc; simp at hc
        · simp [hc, hs]; exact h
      · simp [hc]
        refine ⟨h, fun he => ?_⟩
        unfold DevS.ck at he
        split at he
        · exact h.dead (by assumption)
        · split at he <;> simp at he

set_option maxRecDepth 100000 in
set_option maxHeartbeats 4000000 in
theorem fuses_any (n : Int) (v : Value) (turns : Int) (L : List ActS) (w : World) (hn : -9223372036854775808 ≤ n ∧ n ≤ 9223372036854775807) (ht : -9223372036854775808 ≤ turns ∧ turns ≤ 9223372036854775807) (h : Acts w v L) :
    Calls Try.prog 7 #[.int .i64 n, v, .int .i64 turns] w fun e w' => e = .returned (.bool true) ∧ Below w.heap.size w w' := by
  obtain ⟨ao, cap, hv⟩ : ∃ ao cap, v = .slice ao L.length cap := by obtain ⟨_, _, ao, cap, hv, _⟩ := h; exact ⟨ao, cap, hv⟩
  have HA := Lib.hid h; clear h
  obtain ⟨m, hm⟩ : ∃ m, L.length = m := ⟨_, rfl⟩
  have HL := Lib.hid hm
  rw [hm] at hv
  clear hm
  subst hv
  by_cases hsm : smallB L = true
  · have HSM := Lib.hid hsm; clear hsm
    have hm60 : m ≤ 60 := by have := small_len HSM.out; rw [HL.out] at this; exact this
    have hp := pickI_lt n 12 (by omega)
    have hq := pickI_lt turns 30 (by omega)
    have HP : Hid (∀ W, Calls Try.prog 13 #[.int .i64 n, .int .i64 12] W fun e w' => e = .returned (.int .i64 (pickI n 12)) ∧ W = w') := fun W => pick_any n 12 W hn (by omega)
    have HQ : Hid (∀ W, Calls Try.prog 13 #[.int .i64 turns, .int .i64 30] W fun e w' => e = .returned (.int .i64 (pickI turns 30)) ∧ W = w') := fun W => pick_any turns 30 W ht (by omega)
    generalize pickI n 12 = pn at *
    generalize pickI turns 30 = ms at *
    go_enter Try.func7, Try.ntmps7
    go_wp2_with fail
    refine (shown_any _).mono ?_
    rintro e w1 ⟨rfl, hb1⟩
    have HB1 := Lib.hid hb1; clear hb1
    have c := small_any HA.out HB1.out; rw [HSM.out] at c
    have C := Lib.hid c; clear c
    go_wp2_with fail
    refine C.out.mono ?_
    rintro e w1' ⟨rfl, rfl⟩
    clear C
    go_wp2_with fail
    refine (HP.out _).mono ?_
    rintro e w1' ⟨rfl, rfl⟩
    have C := Lib.hid (At.new (1 + pn) (by omega) HB1.out)
    go_wp2_with fail
    refine C.out.mono ?_
    rintro e w2 ⟨p, rfl, hd⟩
    clear C HB1
    have HD := Lib.hid hd; clear hd
    go_wp2_with fail
    refine (HQ.out _).mono ?_
    rintro e w2' ⟨rfl, rfl⟩
    have C := Lib.hid (HD.out.fuse ms (by omega))
    go_wp2_with fail
    refine C.out.mono ?_
    rintro e w3 ⟨rfl, hd⟩
    clear C HD
    have H0 : Hid (∃ D, At w w3 p D ∧ Fu D ms 0 ∧ D.pend.length ≤ 0) := ⟨_, hd, ⟨by simp [DevS.setFuse]; omega, by simp [DevS.setFuse]; omega, hq.1, fun hx => by simp [DevS.setFuse, DevS.made] at hx⟩, by simp [DevS.setFuse, DevS.made]⟩
    clear hd
    go_wp2_with fail
    go_loopw [12, 13] (fun mv iv wr => ∃ (k : Nat) (mm : Int), k ≤ m ∧ 0 ≤ mm ∧ mm ≤ ms ∧ mv = .int .i64 mm ∧ iv = .int .i64 k ∧ Hid (∃ D, At w wr p D ∧ Fu D ms mm ∧ D.pend.length ≤ k)) (fun _ iv _ => m - (intOf iv).toNat)
    case atStart => exact ⟨0, 0, Nat.zero_le _, Int.le_refl _, hq.1, rfl, rfl, H0⟩
    case round =>
      clear H0
      obtain ⟨k, mm, hk, hm0, hm1, rfl, rfl, HK⟩ := hrel
      obtain ⟨D, hAt, hFu, hlen⟩ := HK.out
      clear HK
      by_cases hlt : k < m
      · have hkL : k < L.length := by rw [HL.out]; exact hlt
        obtain ⟨g, off, cap', hv, c0, c1, c2, c3, c4⟩ := HA.out.cell hAt.bel k hkL
        obtain ⟨rfl, hml, rfl⟩ : ao = some ⟨g, off, none⟩ ∧ m = L.length ∧ cap = cap' := by simpa using hv
        clear hml
        have hsa := small_act HSM.out L[k] (List.getElem_mem hkL)
        have hok := HA.out.1 _ (List.getElem_mem hkL)
        have CD := Lib.hid (hAt.does L[k] (by omega) hsa.1 hsa.2 hok)
        have hpo := pickI_lt L[k].op 8 (by omega)
        have CP := Lib.hid (pick_any L[k].op 8 wr hok.op0 (by omega))
        have HFD : Hid (pickI L[k].op 8 ≤ 5 → _) := fun ho => hFu.does L[k] ho
        have HDL := Lib.hid (D.does_len L[k])
        have HAt := Lib.hid hAt; have HFu := Lib.hid hFu
        clear hv hsa hok hAt hFu
        generalize L[k] = a at *
        generalize pickI a.op 8 = o at *
        by_cases ho : o ≤ 5
        · have hf := HFD.out ho
          generalize D.does a = R at *
          obtain ⟨⟨s, r⟩, D'⟩ := R
          simp only at hf HDL CD
          have HF := Lib.hid hf; have HLn : Hid (D.pend.length ≤ k) := hlen
          clear hf HFD hlen
          by_cases hr : r = 0
          · subst hr
            by_cases o4 : o = 4
            · subst o4
              have HE : Hid (∃ D, At w wr p D ∧ Fu D ms mm ∧ D.pend.length ≤ k) := ⟨D, HAt.out, HFu.out, HLn.out⟩
              have HFx := Lib.hid (show Fu D' ms mm by have := HF.out.1; simpa using this)
              clear HF
              go_wp2_with fail
              refine CP.out.mono ?_
              rintro e wr' ⟨rfl, rfl⟩
              go_wp2_with fail
              refine CD.out.mono ?_
              rintro e w4 ⟨rfl, hd⟩
              have HD4 := Lib.hid hd; clear hd
              go_wp2
              go_roundw
              case rel => exact ⟨k + 1, mm, by omega, hm0, hm1, rfl, by go_num, D', HD4.out, HFx.out, by have := HDL.out; have := HLn.out; omega⟩
              case measure => simp [intOf]; omega
            · have b4 : (o == 4) = false := by simpa using o4
              have b4' : (o != 4) = true := by simpa using o4
              have HFx := Lib.hid (show Fu D' ms (mm + 1) by have := HF.out.1; simpa [o4] using this)
              have hle := HFx.out.le
              clear HF o4
              go_wp2_with fail
              refine CP.out.mono ?_
              rintro e wr' ⟨rfl, rfl⟩
              go_wp2_with fail
              refine CD.out.mono ?_
              rintro e w4 ⟨rfl, hd⟩
              have HD4 := Lib.hid hd; clear hd
              go_wp2
              go_roundw
              case rel => exact ⟨k + 1, mm + 1, by omega, by omega, by omega, rfl, by go_num, D', HD4.out, HFx.out, by have := HDL.out; have := HLn.out; omega⟩
              case measure => simp [intOf]; omega
          · have r0 : (r == 0) = false := by simpa using hr
            have HFx := Lib.hid (show Fu D' ms mm by have := HF.out.1; simpa [hr] using this)
            by_cases r4 : r = 4
            · have HE := Lib.hid (show mm = ms by have := HF.out.2 r4; simpa [hr] using this)
              subst r4
              have e1 : (mm != ms) = false := by simpa using HE.out
              clear HF hr
              go_wp2_with fail
              refine CP.out.mono ?_
              rintro e wr' ⟨rfl, rfl⟩
              go_wp2_with fail
              refine CD.out.mono ?_
              rintro e w4 ⟨rfl, hd⟩
              have HD4 := Lib.hid hd; clear hd
              go_wp2
              go_roundw
              case rel => exact ⟨k + 1, mm, by omega, hm0, hm1, rfl, by go_num, D', HD4.out, HFx.out, by have := HDL.out; have := HLn.out; omega⟩
              case measure => simp [intOf]; omega
            · have r4' : (r == 4) = false := by simpa using r4
              clear HF hr r4
              go_wp2_with fail
              refine CP.out.mono ?_
              rintro e wr' ⟨rfl, rfl⟩
              go_wp2_with fail
              refine CD.out.mono ?_
              rintro e w4 ⟨rfl, hd⟩
              have HD4 := Lib.hid hd; clear hd
              go_wp2
              go_roundw
              case rel => exact ⟨k + 1, mm, by omega, hm0, hm1, rfl, by go_num, D', HD4.out, HFx.out, by have := HDL.out; have := HLn.out; omega⟩
              case measure => simp [intOf]; omega
        · have HLn : Hid (D.pend.length ≤ k) := hlen
          have ho' : 5 < o := by omega
          clear hlen ho HFD CD HDL
          go_wp2_with fail
          refine CP.out.mono ?_
          rintro e wr' ⟨rfl, rfl⟩
          go_wp2
          go_roundw
          case rel => exact ⟨k + 1, mm, by omega, hm0, hm1, rfl, by go_num, D, HAt.out, HFu.out, by have := HLn.out; omega⟩
          case measure => simp [intOf]; omega
      · have C := Lib.hid hAt.dead
        have HAt := Lib.hid hAt
        have hdd := hFu.dead
        clear hAt hFu hlen
        generalize D.dead = de at *
        cases de
        · go_wp2_with fail
          refine C.out.mono ?_
          rintro e wr' ⟨rfl, rfl⟩
          go_wp2
          go_ret
          exact ⟨rfl, HAt.out.bel⟩
        · have he := hdd rfl
          subst he
          clear hdd
          go_wp2_with fail
          refine C.out.mono ?_
          rintro e wr' ⟨rfl, rfl⟩
          go_wp2
          go_ret
          exact ⟨by simp, HAt.out.bel⟩
  · have hsf : smallB L = false := by simpa using hsm
    have HSM := Lib.hid hsf; clear hsm hsf
    go_enter Try.func7, Try.ntmps7
    go_wp2_with fail
    refine (shown_any _).mono ?_
    rintro e w1 ⟨rfl, hb1⟩
    have HB1 := Lib.hid hb1; clear hb1
    have c := small_any HA.out HB1.out; rw [HSM.out] at c
    have C := Lib.hid c; clear c
    go_wp2_with fail
    refine C.out.mono ?_
    rintro e w1' ⟨rfl, rfl⟩
    clear C
    go_wp2
    go_ret
    exact ⟨rfl, HB1.out⟩

end Go.Proofs.Ytlikbfdfaccekaa

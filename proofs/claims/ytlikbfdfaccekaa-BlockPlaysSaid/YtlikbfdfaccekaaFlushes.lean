/- BlockFlushes answers true for every number and every list of acts, and changes nothing that was there: the walk. -/
import Derived.Test.YtlikbfdfaccekaaMade
namespace Go.Proofs.Ytlikbfdfaccekaa
open Go.RowKit

theorem fl_bad (D : DevS) (h : D.fl.1 ≠ 0) : D.fl.2.dead = true := by
  unfold DevS.fl at h ⊢
  split
  · assumption
  · split
    · rename_i h1 h2
      unfold DevS.tk at h2 ⊢
      split at h2
      · simp at h2
      · split at h2
        · simp [*]
        · simp at h2
    · simp_all
theorem tk_dead (D : DevS) (h : D.tk.1 = true) : D.tk.2.dead = D.dead := by
  unfold DevS.tk at h ⊢
  split
  · rfl
  · split
    · simp_all
    · rfl
theorem fl_good (D : DevS) (h : D.fl.1 = 0) : D.fl.2.pend = [] ∧ D.fl.2.dead = false := by
  unfold DevS.fl at h ⊢
  split
  · simp_all
  · split
    · simp_all
    · rename_i h1 h2
      exact ⟨rfl, by rw [tk_dead D (by simpa using h2)]; simpa using h1⟩
theorem rd_flat (D : DevS) (i : Nat) (hp : D.pend = []) (hd : D.dead = false) (hi : i < D.disk.length) : D.rd i = (D.disk[i], 0) := by
  have hck : D.ck i = 0 := by unfold DevS.ck; rw [hd]; simp; omega
  unfold DevS.rd DevS.rdB
  rw [hck, hp]
  simp [hi]

/-- A row of no elements is an empty slice. -/
theorem own_zero {w : World} {base : Nat} {e : TypeId} {size : Nat} {v : Value} {xs : List Value} (h : w.ownsRow base e size v 0 xs) : ∃ ao cap, v = .slice ao 0 cap := by
  rcases h.2 with ⟨hv, _⟩ | ⟨g, cap, cur, hv, _⟩
  · exact ⟨_, _, hv⟩
  · exact ⟨_, _, hv⟩
theorem own_pos {w : World} {base : Nat} {e : TypeId} {size n : Nat} {v : Value} {xs : List Value} (hn : 1 ≤ n) (h : w.ownsRow base e size v n xs) : ∃ g cap, v = .slice (some ⟨g, 0, none⟩) n cap := by
  rcases h.2 with ⟨_, h0⟩ | ⟨g, cap, cur, hv, _⟩
  · omega
  · exact ⟨g, cap, hv⟩

theorem At.readB {w0 w : World} {p : Nat} {D : DevS} (i : Int) (hl : D.pend.length ≤ 1000000) (h : At w0 w p D) :
    Calls Try.prog 24 #[.pointer (some ⟨p, 0, none⟩), .int .i64 i] w fun e w' => e = .returned (.tuple #[.string (D.rd i).1, .int .i64 (D.rd i).2]) ∧ Below w.heap.size w w' := by
  obtain ⟨S, hS, hs, h0⟩ := h
  exact read_any i hl hs

set_option maxRecDepth 100000 in
set_option maxHeartbeats 4000000 in
theorem flushes_any (n : Int) (v : Value) (L : List ActS) (w : World) (hn : -9223372036854775808 ≤ n ∧ n ≤ 9223372036854775807) (h : Acts w v L) :
    Calls Try.prog 6 #[.int .i64 n, v] w fun e w' => e = .returned (.bool true) ∧ Below w.heap.size w w' := by
  obtain ⟨ao, cap, hv⟩ : ∃ ao cap, v = .slice ao L.length cap := by obtain ⟨_, _, ao, cap, hv, _⟩ := h; exact ⟨ao, cap, hv⟩
  have HA := Lib.hid h; clear h
  have HV := Lib.hid hv
  obtain ⟨m, hm⟩ : ∃ m, L.length = m := ⟨_, rfl⟩
  rw [hm] at hv
  clear hm
  subst hv
  by_cases hsm : smallB L = true
  · have HSM := Lib.hid hsm; clear hsm
    go_enter Try.func6, Try.ntmps6
    go_wp2_with fail
    refine (shown_any _).mono ?_
    rintro e w1 ⟨rfl, hb1⟩
    have HB1 := Lib.hid hb1; clear hb1
    have c := small_any HA.out HB1.out; rw [HSM.out] at c
    have C := Lib.hid c; clear c
    go_wp2_with fail
    refine C.out.mono ?_
    rintro e w1' ⟨rfl, rfl⟩
    clear C
    have C := Lib.hid (made_any n _ L _ hn (HA.out.mono HB1.out) HSM.out)
    go_wp2_with fail
    refine C.out.mono ?_
    rintro e w2 ⟨p, rfl, hd⟩
    clear C
    have hlen : (madeD n L).pend.length ≤ 1000000 := by have := madeD_len n L; have := small_len HSM.out; omega
    have HD : Hid (At w w2 p (madeD n L)) := .of_fresh HB1.out hd
    clear hd HB1
    generalize madeD n L = D at *
    have C := Lib.hid (HD.out.flush hlen)
    clear HD hlen
    by_cases hok : D.fl.1 = 0
    · have hfg := fl_good D hok
      rw [hok] at C
      clear hok
      go_wp2_with fail
      refine C.out.mono ?_
      rintro e w3 ⟨rfl, hd⟩
      clear C
      have HD := Lib.hid hd; clear hd
      generalize D.fl.2 = F at *
      have hpos := HD.out.ok.some
      have hfew := HD.out.ok.few
      have C := Lib.hid HD.out.disk
      go_wp2_with fail
      refine C.out.mono ?_
      rintro e w4 ⟨v, rfl, hown, hb4, hd⟩
      clear C HD
      obtain ⟨g, cap2, rfl⟩ := own_pos hpos hown
      have HCell : Hid (∀ i (h : i < F.disk.length), w4.cell? ⟨g, i, none⟩ = some (.string F.disk[i])) := by
        intro i hi
        rw [World.ownsRow.cellAt hown i (by omega)]; simp [hi]
      have HD := Lib.hid hd
      clear hown hb4 hd
      have C := Lib.hid (HD.out.pending (by rw [hfg.1]; simp))
      rw [hfg.1] at C
      go_wp2_with fail
      refine C.out.mono ?_
      rintro e w5 ⟨v, rfl, hown, hb5, hd⟩
      clear C HD
      obtain ⟨ao3, cap3, rfl⟩ := own_zero hown
      have HB5 := Lib.hid hb5; clear hb5 hown
      have HD := Lib.hid hd; clear hd
      have C := Lib.hid HD.out.blocks
      have HFG := Lib.hid hfg; clear hfg
      obtain ⟨nd, hnd⟩ : ∃ nd, F.disk.length = nd := ⟨_, rfl⟩
      have HND := Lib.hid hnd
      rw [hnd] at C hpos hfew ⊢
      clear hnd
      go_wp2_with fail
      refine C.out.mono ?_
      rintro e w5' ⟨rfl, rfl⟩
      clear C
      have H45 : Hid (∀ i (h : i < F.disk.length) (W : World), Below w5.heap.size w5 W → W.cell? ⟨g, i, none⟩ = some (.string F.disk[i])) := by
        intro i hi W hW
        have hc := HCell.out i hi
        have hlt := World.block_lt_of_cell? w4 _ hc
        rw [hW.cell (p := ⟨g, i, none⟩) (Nat.lt_of_lt_of_le hlt HB5.out.size), HB5.out.cell (p := ⟨g, i, none⟩) hlt]
        exact hc
      clear HCell
      go_wp2_with fail
      go_loopw [10] (fun i wr => ∃ k : Nat, k ≤ nd ∧ i = .int .i64 k ∧ Hid (Below w5.heap.size w5 wr)) (fun i _ => nd - (intOf i).toNat)
      case atStart => exact ⟨0, Nat.zero_le _, rfl, Below.refl _ _⟩
      case round =>
        obtain ⟨k, hk, rfl, HB⟩ := hrel
        by_cases hlt : k < nd
        · have hkF : k < F.disk.length := by rw [HND.out]; exact hlt
          have c := (HD.out.below HB.out).readB k (by rw [HFG.out.1]; simp)
          rw [rd_flat F k HFG.out.1 HFG.out.2 hkF] at c
          have hs := HD.out.ok.whole _ (List.getElem_mem hkF)
          have H45k := H45.out k hkF
          generalize F.disk[k] = X at *
          have hs1 : X.size ≤ 256 := by omega
          have hs2 : 256 ≤ X.size := by omega
          have HC := Lib.hid c; have H45K := Lib.hid H45k
          clear c hs H45k
          go_wp2_with fail
          refine HC.out.mono ?_
          rintro e w6 ⟨rfl, hb6⟩
          have HB6 : Hid (Below w5.heap.size w5 w6) := HB.out.trans (hb6.mono HB.out.size)
          have hcell := H45K.out _ HB6.out
          clear hb6
          go_wp2
          go_roundw
          case rel => exact ⟨k + 1, by omega, by go_num, HB6⟩
          case measure => simp [intOf]; omega
        · go_wp2
          go_ret
          exact ⟨rfl, HD.out.bel.trans (HB.out.mono HD.out.bel.size)⟩
    · have hdd := fl_bad D hok
      have hok' : (D.fl.1 != 0) = true := by simpa using hok
      clear hok
      go_wp2_with fail
      refine C.out.mono ?_
      rintro e w3 ⟨rfl, hd⟩
      clear C
      have C := Lib.hid hd.dead
      have HD := Lib.hid hd; clear hd
      rw [hdd] at C
      clear hdd
      generalize D.fl.1 = r at *
      go_wp2_with fail
      refine C.out.mono ?_
      rintro e w3' ⟨rfl, rfl⟩
      clear C
      go_wp2
      go_ret
      exact ⟨rfl, HD.out.bel⟩
  · have hsf : smallB L = false := by simpa using hsm
    have HSM := Lib.hid hsf; clear hsm hsf
    go_enter Try.func6, Try.ntmps6
    go_wp2_with fail
    refine (shown_any _).mono ?_
    rintro e w1 ⟨rfl, hb1⟩
    have HB1 := Lib.hid hb1; clear hb1
    have c := small_any HA.out HB1.out; rw [HSM.out] at c
    have C := Lib.hid c; clear c
    go_wp2_with fail
    refine C.out.mono ?_
    rintro e w1' ⟨rfl, rfl⟩
    clear C
    go_wp2
    go_ret
    exact ⟨rfl, HB1.out⟩

end Go.Proofs.Ytlikbfdfaccekaa

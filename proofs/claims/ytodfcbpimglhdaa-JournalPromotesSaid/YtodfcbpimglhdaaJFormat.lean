/- What Format answers and leaves behind, for every device and every length of a log. -/
import Derived.Test.YtodfcbpimglhdaaJAdd
namespace Go.Proofs.Ytodfcbpimglhdaa
open Go.RowKit
open Fr (SlW OwnW flatI two_cells two_one own_pushW)

section
variable {S : Nat → Prop} {w w' : World} {a p : Nat} {J : JS} {D : DevS}

def fmtK (k : Nat) : List (Int × ByteArray) := (List.range k).map fun i => (((i + 1 : Nat) : Int), noughts)
theorem fmtK_succ (k : Nat) : fmtK (k + 1) = fmtK k ++ [(((k + 1 : Nat) : Int), noughts)] := by unfold fmtK; rw [List.range_succ, List.map_append]; rfl
theorem fmtK_len (k : Nat) : (fmtK k).length = k := by simp [fmtK]
theorem fmtL_eq (log : Nat) : fmtL log = fmtK (log + 1) ++ [(0, slotB 1 1 log 0)] := rfl

set_option maxRecDepth 100000 in
set_option maxHeartbeats 2000000 in
theorem format_any (log : Int) (hd : Stands S w p D) (hp : D.pend.length ≤ 800000) :
    Calls Try.prog 23 #[.pointer (some ⟨p, 0, none⟩), .int .i64 log] w fun e w' => e = .returned (.int .i64 (D.fmt log).1) ∧ Leaves S w w' p (D.fmt log).2 := by
  obtain ⟨i0, hi, hz0, hz1, hz2⟩ := info_parts Try.infoW
  have HZ2 := Lib.hid hz2; clear hz2
  have hnd := hd.ok.few
  have CBl := Lib.hid (blocks_any hd)
  have CFi := Lib.hid (fits_any (w := w) log D.disk.length hnd)
  have HD := Lib.hid hd; clear hd
  by_cases hf : 50 ≤ log ∧ log ≤ (D.disk.length : Int) - 3
  · rw [decide_eq_true hf] at CFi
    obtain ⟨n, rfl⟩ := Int.eq_ofNat_of_zero_le (show 0 ≤ log by omega)
    have HFm : Hid (D.fmt (n : Int) = D.stl (fmtK (n + 1) ++ [(0, slotB 1 1 n 0)])) := by
      show _ = _; unfold DevS.fmt; rw [if_neg (by omega), Int.toNat_natCast, fmtL_eq]
    have hn1 : n ≤ 4096 := by omega
    generalize D.disk.length = nd at *
    clear hf
    obtain ⟨NN, hNN⟩ : ∃ x, noughts = x := ⟨_, rfl⟩
    have CN : Hid (∀ W, Calls Try.prog 55 #[.int .i64 256] W fun e w' => e = .returned (.string NN) ∧ Below W.heap.size W w') := fun W => by rw [← hNN]; exact jnoughts_all W
    have HSu : Hid (∀ k, fmtK (k + 1) = fmtK k ++ [(((k + 1 : Nat) : Int), NN)]) := fun k => by rw [← hNN]; exact fmtK_succ k
    clear hNN
    go_enter Try.func23, Try.ntmps23
    go_wp2_with fail
    refine CBl.out.mono ?_
    rintro e w1 ⟨rfl, rfl⟩
    go_wp2_with fail
    refine CFi.out.mono ?_
    rintro e w1 ⟨rfl, rfl⟩
    go_wp2_with fail
    go_loopw [5, 6] (fun wv i wr => ∃ k : Nat, k ≤ n + 1 ∧ i = .int .i64 ((k + 1 : Nat) : Int) ∧ Hid (OwnW w.heap.size wr wv (fmtK k)) ∧ Hid (Below w.heap.size w wr)) (fun _ i _ => n + 2 - (intOf i).toNat)
    case atStart => exact ⟨0, Nat.zero_le _, rfl, OwnW.nil _ _, Below.refl _ _⟩
    case round =>
      obtain ⟨k, hk, rfl, HO, HB⟩ := hrel
      have hbr := HB.out.size
      by_cases hlt : k < n + 1
      · have hlen : (fmtK k).length ≤ 4098 := by rw [fmtK_len]; omega
        have HSN := Lib.hid (HSu.out k)
        have i1 : (k : Int) + 1 < 2 + (n : Int) := by omega
        obtain ⟨M, hM⟩ : ∃ M, fmtK k = M := ⟨_, rfl⟩
        rw [hM] at HO HSN hlen
        clear hM
        obtain ⟨ao2, c2, hv, _⟩ := HO.out.sl
        subst hv
        have wk : IntKind.i64.wrap ((k : Int) + 1 + 1) = (k : Int) + 1 + 1 := IntWalk.i64_in _ (by omega)
        go_wp2_with fail
        refine (CN.out _).mono ?_
        rintro e w2 ⟨rfl, hb2⟩
        have HB2 := Lib.hid hb2; clear hb2
        have hbr2 := HB2.out.size
        go_wp2_with (at_builtin; go_loud (refine wpList_append_own _ rfl _ _ 42 rfl w.heap.size 71 i0 _ 2 24 Try.underlying42 hi hz0 hz1 HZ2.out rfl (by decide) _ _ _ rfl ((HO.out.below HB2.out).alloc _) _ 1 1 [.int .i64 ((k : Int) + 1), .string NN] rfl rfl (two_cells rfl) two_one ?c3 ?c4 ?c5 ?_))
        case c3 => unfold maxLen; omega
        case c4 => omega
        case c5 => simp; omega
        intro v1 w3 hown hgrow _
        have HO3 : Hid (OwnW w.heap.size w3 v1 (fmtK (k + 1))) := by
          show OwnW _ _ _ _
          rw [HSN.out]; exact own_pushW hown
        have HB3 : Hid (Below w.heap.size w w3) := ((HB.out.trans (HB2.out.mono hbr)).alloc (by omega) _).grown hgrow (by simp; omega) (fun q hq => (HO.out.lt q hq).1)
        clear hown hgrow HB2
        go_wp2
        go_roundw
        case rel => exact ⟨k + 1, by omega, by go_num, HO3, HB3⟩
        case measure => simp [intOf]; omega
      · have hkn : k = n + 1 := by omega
        subst hkn
        have hlen : (fmtK (n + 1)).length ≤ 4098 := by rw [fmtK_len]; omega
        have i1 : ¬ ((n + 1 : Nat) : Int) + 1 < 2 + (n : Int) := by omega
        obtain ⟨ao2, c2, hv, _⟩ := HO.out.sl
        subst hv
        obtain ⟨M, hM⟩ : ∃ M, fmtK (n + 1) = M := ⟨_, rfl⟩
        rw [hM] at HO HFm hlen ⊢
        clear hM
        have CT : Hid (∀ W, Calls Try.prog 57 #[.agg #[.int .u64 1, .int .u64 1, .int .i64 (n : Int), .int .i64 0]] W fun r w' => r = .returned (.string (slotB 1 1 n 0)) ∧ Below W.heap.size W w') := fun W => text_any 1 1 n 0 W (by omega) (by omega) hn1 (by omega)
        generalize slotB 1 1 n 0 = tt at *
        obtain ⟨Y, hY⟩ : ∃ Y, (wr.alloc (.cells #[.int .u64 1, .int .u64 1, .int .i64 (n : Int), .int .i64 0] 83)).alloc (.cells #[.pointer (some ⟨p, 0, none⟩), .int .u64 0, .int .u64 0, .int .i64 0, .int .i64 0, .int .i64 0, .int .u64 0, .int .i64 0] 85) = Y := ⟨_, rfl⟩
        have hYb : Below wr.heap.size wr Y := by rw [← hY]; exact ((Below.refl _ _).alloc (Nat.le_refl _) _).alloc (by simp) _
        have hYj : Jr 85 Y (wr.heap.size + 1) p ⟨0, 0, 0, 0, 0, 0, 0⟩ := by
          have e : (wr.alloc (.cells #[.int .u64 1, .int .u64 1, .int .i64 (n : Int), .int .i64 0] 83)).heap.size = wr.heap.size + 1 := by simp
          unfold Jr; rw [← hY, ← e]; exact heap_alloc_new ..
        have hYz := hYj.lt
        have HY := Lib.hid hY; have HYb := Lib.hid hYb; have HYj := Lib.hid hYj
        clear hY hYb hYj
        go_wp2_with fail
        rw [HY.out]
        refine (CT.out _).mono ?_
        rintro e w2 ⟨rfl, hb2⟩
        have HB2 : Hid (Below wr.heap.size wr w2) := HYb.out.trans (hb2.mono HYb.out.size)
        have HJ2 := Lib.hid (HYj.out.below hb2)
        have hz2 := hb2.size
        clear hb2
        have hbr2 := HB2.out.size
        go_wp2_with (at_builtin; go_loud (refine wpList_append_own _ rfl _ _ 42 rfl w.heap.size 71 i0 _ 2 24 Try.underlying42 hi hz0 hz1 HZ2.out rfl (by decide) _ _ _ rfl ((HO.out.below HB2.out).alloc _) _ 1 1 [.int .i64 0, .string tt] rfl rfl (two_cells rfl) two_one ?c3 ?c4 ?c5 ?_))
        case c3 => unfold maxLen; omega
        case c4 => omega
        case c5 => simp; omega
        intro v1 w3 hown hgrow _
        have hO3 := own_pushW hown
        have HB3 : Hid (Below w.heap.size w w3) := ((HB.out.trans (HB2.out.mono hbr)).alloc (by omega) _).grown hgrow (by simp; omega) (fun q hq => (HO.out.lt q hq).1)
        have HJ3 : Hid (Jr 85 w3 (wr.heap.size + 1) p ⟨0, 0, 0, 0, 0, 0, 0⟩) := by
          show Jr _ _ _ _ _
          have h1 : Jr 85 (w2.alloc (.cells #[.int .i64 0, .string tt] 71)) (wr.heap.size + 1) p ⟨0, 0, 0, 0, 0, 0, 0⟩ := HJ2.out.below ((Below.refl _ _).alloc (Nat.le_refl _) _)
          unfold Jr
          rw [hgrow.block _ h1.lt (fun e => by have := (HO.out.lt _ e.symm).2; omega)]
          exact h1
        have hl2 : (M ++ [((0 : Int), tt)]).length ≤ 5000 := by simp; omega
        obtain ⟨M2, hM2⟩ : ∃ M2, M ++ [((0 : Int), tt)] = M2 := ⟨_, rfl⟩
        rw [hM2] at hO3 HFm hl2
        have HO3 := Lib.hid hO3
        clear hown hgrow hO3 HB2 HJ2 hM2
        have hna : ¬ S (wr.heap.size + 1) := fun h => by have := HD.out.lt _ h; omega
        have hSO : Outs S v1 := by
          intro g off' n' c' hv hg
          have h1 := (HO3.out.lt g (by rw [hv]; rfl)).1
          have h2 := HD.out.lt g hg
          omega
        have CS := Lib.hid (jsettle_any (L := M2) HJ3.out (HD.out.below HB3.out) hna (by omega) (by omega) HO3.out.sl hSO)
        obtain ⟨ao3, c3, hv3, _⟩ := HO3.out.sl
        subst hv3
        clear hSO HO3 hna
        go_wp2_with fail
        refine CS.out.mono ?_
        rintro e w4 ⟨rfl, hv4⟩
        have HV := Lib.hid (Leaves.from HB3.out hv4); clear hv4
        go_wp2
        go_ret
        exact ⟨by rw [HFm.out]; rfl, by rw [HFm.out]; exact HV.out⟩
  · have HFm : Hid (D.fmt log = (2, D)) := by show _ = _; unfold DevS.fmt; rw [if_pos (by omega)]
    rw [decide_eq_false hf] at CFi
    generalize D.disk.length = nd at *
    clear hf
    go_enter Try.func23, Try.ntmps23
    go_wp2_with fail
    refine CBl.out.mono ?_
    rintro e w1 ⟨rfl, rfl⟩
    go_wp2_with fail
    refine CFi.out.mono ?_
    rintro e w1 ⟨rfl, rfl⟩
    go_wp2
    go_ret
    exact ⟨by rw [HFm.out]; rfl, by rw [HFm.out]; exact .mk HD.out (Only.refl _ _)⟩
end
end Go.Proofs.Ytodfcbpimglhdaa

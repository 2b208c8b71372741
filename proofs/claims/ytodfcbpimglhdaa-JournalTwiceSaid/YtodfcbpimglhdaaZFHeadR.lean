/- What the document's own blocks and Head answer: the same. -/
import Derived.Test.YtodfcbpimglhdaaZLOpenA

namespace Go.Proofs.Ytodfcbpimglhdaa.Fr
open Go.RowKit

def OwnI (B : Nat) (w : World) (v : Value) (L : List Int) : Prop := w.ownsRow B 3 1 v L.length (L.map (Value.int .i64))
theorem OwnI.below {B : Nat} {w w' : World} {v : Value} {L : List Int} (h : OwnI B w v L) (hb : Below w.heap.size w w') : OwnI B w' v L := own_below h hb
theorem OwnI.mono {B B' : Nat} {w : World} {v : Value} {L : List Int} (h : OwnI B w v L) (hb : B' ≤ B) : OwnI B' w v L := own_mono h hb
theorem OwnI.shape {B : Nat} {w : World} {v : Value} {L : List Int} (h : OwnI B w v L) : ∃ ao c, v = .slice ao L.length c := by
  rcases h.2 with ⟨e, hn⟩ | ⟨g, cap, cur, e, _⟩
  · exact ⟨none, 0, by rw [e, hn]⟩
  · exact ⟨_, cap, e⟩
theorem OwnI.here {B : Nat} {w : World} {v : Value} {L : List Int} (h : OwnI B w v L) (h0 : 0 < L.length) : ∃ g c, v = .slice (some ⟨g, 0, none⟩) L.length c ∧ g < w.heap.size ∧ ∀ j (hj : j < L.length), w.cell? ⟨g, j, none⟩ = some (.int .i64 L[j]) := by
  have hO := h
  rcases h.2 with ⟨_, hn⟩ | ⟨g, cap, cur, rfl, hbg, hg, hc, _⟩
  · omega
  · refine ⟨g, cap, rfl, (Array.getElem?_eq_some_iff.1 hg).1, fun j hj => ?_⟩
    rw [World.ownsRow.cellAt hO j (by omega)]
    simp [hj]
theorem own_pushI {B : Nat} {w1 : World} {v1 : Value} {M : List Int} {i : Int} (hown : w1.ownsRow B 3 1 v1 (M.length + 1) (M.map (Value.int .i64) ++ [.int .i64 i])) : OwnI B w1 v1 (M ++ [i]) := by
  unfold OwnI
  rw [List.length_append, List.map_append]
  exact hown
theorem int_cell {w : World} {t : TypeId} {i : Int} {g : Nat} (hg : w.heap.size = g) : ∀ (j : Nat) (u : Value), [Value.int .i64 i][j]? = some u → (w.alloc (.cells #[.int .i64 i] t)).cell? ((⟨g, 0, none⟩ : Addr).add j) = some u := by
  subst hg
  intro j u hu
  cases j with
  | zero => rw [add_at, cell_at (heap_alloc_new ..)]; exact hu
  | succ j => simp at hu
theorem int_one {i : Int} : ∀ u ∈ [Value.int .i64 i], u.oneCell' = true := by intro u hu; simp at hu; subst hu; rfl
def nmsL (l : List UInt8) (k : Nat) : List Int := (List.range k).map fun i => ((nmAt l (16 + 4 * i) : Nat) : Int)
theorem nmsL_len (l : List UInt8) (k : Nat) : (nmsL l k).length = k := by simp [nmsL]
theorem nmsL_snoc (l : List UInt8) (k : Nat) : nmsL l (k + 1) = nmsL l k ++ [((nmAt l (16 + 4 * k) : Nat) : Int)] := by unfold nmsL; rw [List.range_succ, List.map_append]; rfl
theorem ext_eq (s : ByteArray) (l : List UInt8) (hl : s.data.toList = l) (k : Nat) : s.extract k s.size = bs (l.drop k) := by
  subst hl
  have := bs_ext s.data.toList k s.size
  rw [bs_data] at this
  rw [this, List.take_of_length_le (by rw [str_len]; exact Nat.le_refl _)]
theorem ext_to (s : ByteArray) (l : List UInt8) (hl : s.data.toList = l) (k : Nat) : s.extract 0 k = bs (l.take k) := by
  subst hl
  have := bs_ext s.data.toList 0 k
  rw [bs_data, List.drop_zero] at this
  exact this

set_option maxRecDepth 100000 in
set_option maxHeartbeats 1000000 in
theorem rblocks_size (s : ByteArray) (w : World) (h : ((s.size : Int) != 256) = true) :
    Calls Try.prog 96 #[.string s] w fun e w' => e = .returned (.tuple #[.int .u64 0, .slice none 0 0, .bool false]) ∧ Below w.heap.size w w' := by
  go_enter Try.func96, Try.ntmps96
  go_wp2
  go_ret3
  exact ⟨rfl, Below.refl _ _⟩
theorem lit_diff {X : ByteArray} {l : List UInt8} (h : X ≠ bs l) : (X.toList == l) = false := by
  have := str_diff h
  rw [ByteArray.toList_eq (bs l)] at this
  exact this
theorem lit_same {X : ByteArray} {l : List UInt8} (h : X = bs l) : (X.toList == l) = true := by
  have := str_same h
  rw [ByteArray.toList_eq (bs l)] at this
  exact this
set_option maxRecDepth 100000 in
set_option maxHeartbeats 1000000 in
theorem rblocks_begin (s : ByteArray) (w : World) (hz : s.size = 256) (hp : s.extract 0 4 ≠ bs cdxt) :
    Calls Try.prog 96 #[.string s] w fun e w' => e = .returned (.tuple #[.int .u64 0, .slice none 0 0, .bool false]) ∧ Below w.heap.size w w' := by
  have h : ((s.size : Int) != 256) = false := by simp; omega
  have i1 : (4 : Int) ≤ (s.size : Int) := by omega
  have hd : (!((s.extract 0 4).toList == [67, 68, 88, 84])) = true := by rw [show ([67, 68, 88, 84] : List UInt8) = cdxt from rfl, lit_diff hp]; rfl
  clear hp hz
  obtain ⟨X, hX⟩ : ∃ X, s.extract 0 4 = X := ⟨_, rfl⟩
  rw [hX] at hd
  go_enter Try.func96, Try.ntmps96
  go_wp2
  go_ret3
  exact ⟨rfl, Below.refl _ _⟩
set_option maxRecDepth 100000 in
set_option maxHeartbeats 1000000 in
theorem rblocks_end (s : ByteArray) (w : World) (hz : s.size = 256) (hp : s.extract 0 4 = bs cdxt) (hq : s.extract 252 s.size ≠ bs cdxe) :
    Calls Try.prog 96 #[.string s] w fun e w' => e = .returned (.tuple #[.int .u64 0, .slice none 0 0, .bool false]) ∧ Below w.heap.size w w' := by
  have h : ((s.size : Int) != 256) = false := by simp; omega
  have i1 : (4 : Int) ≤ (s.size : Int) := by omega
  have i2 : (252 : Int) ≤ (s.size : Int) := by omega
  have hd : (!((s.extract 0 4).toList == [67, 68, 88, 84])) = false := by rw [show ([67, 68, 88, 84] : List UInt8) = cdxt from rfl, lit_same hp]; rfl
  have he : (!((s.extract 252 s.size).toList == [67, 68, 88, 69])) = true := by rw [show ([67, 68, 88, 69] : List UInt8) = cdxe from rfl, lit_diff hq]; rfl
  clear hp hq hz
  obtain ⟨X, hX⟩ : ∃ X, s.extract 0 4 = X := ⟨_, rfl⟩
  rw [hX] at hd
  obtain ⟨Y, hY⟩ : ∃ Y, s.extract 252 s.size = Y := ⟨_, rfl⟩
  rw [hY] at he
  go_enter Try.func96, Try.ntmps96
  go_wp2
  go_ret3
  exact ⟨rfl, Below.refl _ _⟩

set_option maxRecDepth 100000 in
set_option maxHeartbeats 4000000 in
theorem rblocks_form (s : ByteArray) (l : List UInt8) (w : World) (R : Ending → World → Prop) (hl : s.data.toList = l) (hn : l.length = 256) (hp : s.extract 0 4 = bs cdxt) (hq : s.extract 252 s.size = bs cdxe)
    (hno : ¬ (1 ≤ nmAt l 12 ∧ nmAt l 12 ≤ 48 ∧ takeB (nmAt l 12) 58 ((l.take 248).drop 16) = true) → ∀ w', Below w.heap.size w w' → R (.returned (.tuple #[.int .u64 0, .slice none 0 0, .bool false])) w')
    (hyes : 1 ≤ nmAt l 12 → nmAt l 12 ≤ 48 → takeB (nmAt l 12) 58 ((l.take 248).drop 16) = true → ∀ v w', OwnI w.heap.size w' v (blocksOf l) → Below w.heap.size w w' → R (.returned (.tuple #[.int .u64 ((seqOf l : Nat) : Int), v, .bool true])) w') :
    Calls Try.prog 96 #[.string s] w R := by
  obtain ⟨i0, hi, hz0, hz1, hz2⟩ := info_parts Try.infoI
  have HZ2 := Lib.hid hz2; clear hz2
  have hsz : s.size = 256 := by rw [← str_len, hl, hn]
  have h1 : ((s.size : Int) != 256) = false := by simp; omega
  have i1 : (4 : Int) ≤ (s.size : Int) := by omega
  have i2 : (252 : Int) ≤ (s.size : Int) := by omega
  have i3 : (8 : Int) ≤ (s.size : Int) := by omega
  have i4 : (12 : Int) ≤ (s.size : Int) := by omega
  have hd : (!((s.extract 0 4).toList == [67, 68, 88, 84])) = false := by rw [show ([67, 68, 88, 84] : List UInt8) = cdxt from rfl, lit_same hp]; rfl
  have he : (!((s.extract 252 s.size).toList == [67, 68, 88, 69])) = false := by rw [show ([67, 68, 88, 69] : List UInt8) = cdxe from rfl, lit_same hq]; rfl
  clear hp hq
  have HNO := Lib.hid hno; clear hno
  have HYES := Lib.hid hyes; clear hyes
  have F : Hid (∀ W k, k + 4 ≤ 256 → ∃ T2, Calls Try.prog 78 #[.string (s.extract k s.size)] W fun e w' => e = .returned (.tuple #[.int .u32 ((nmAt l k : Nat) : Int), .string T2, .bool true]) ∧ Below W.heap.size W w') := fun W k hk =>
    ⟨_, rtoFixed_at W (ext_eq s l hl k) rfl (by omega) (by omega)⟩
  have x4 := nmAt_lt l 4
  have x8 := nmAt_lt l 8
  have x12 := nmAt_lt l 12
  have HSEQ : Hid (seqOf l = nmAt l 4 + 4294967296 * nmAt l 8) := rfl
  have HBL : Hid (blocksOf l = nmsL l (nmAt l 12)) := rfl
  have F4 := Lib.hid (fun W => F.out W 4 (by omega))
  have F8 := Lib.hid (fun W => F.out W 8 (by omega))
  have F12 := Lib.hid (fun W => F.out W 12 (by omega))
  have HGD : Hid (∀ j (h : j < s.size), s[j] = l.getD j 0) := fun j hj => by
    subst hl
    have h' : j < s.data.toList.length := by rw [str_len]; exact hj
    rw [getD_at _ j h']; rfl
  obtain ⟨lo, hlo⟩ : ∃ x, nmAt l 4 = x := ⟨_, rfl⟩
  obtain ⟨hi', hhi⟩ : ∃ x, nmAt l 8 = x := ⟨_, rfl⟩
  obtain ⟨n, hnn⟩ : ∃ x, nmAt l 12 = x := ⟨_, rfl⟩
  rw [hlo] at F4 x4 HSEQ
  rw [hhi] at F8 x8 HSEQ
  rw [hnn] at F12 HNO HYES x12 HBL
  obtain ⟨sq, hsq⟩ : ∃ x, seqOf l = x := ⟨_, rfl⟩
  rw [hsq] at HSEQ HYES
  have HL := Lib.hid hl
  clear hlo hhi hnn hsq hl hn
  have HSZ := Lib.hid hsz
  have zz1 : s.size ≤ 256 := by omega
  have zz2 : 256 ≤ s.size := by omega
  clear hsz
  go_enter Try.func96, Try.ntmps96
  obtain ⟨T4, c4⟩ := F4.out w
  have C4 := Lib.hid c4; clear c4 F4
  go_wp2_with fail
  refine C4.out.mono ?_
  rintro e w1 ⟨rfl, hb1⟩
  have HB1 := Lib.hid hb1; clear hb1 C4
  obtain ⟨T8, c8⟩ := F8.out w1
  have C8 := Lib.hid c8; clear c8 F8
  go_wp2_with fail
  refine C8.out.mono ?_
  rintro e w2 ⟨rfl, hb2⟩
  have HB2 := Lib.hid (HB1.out.trans (hb2.mono HB1.out.size)); clear hb2 C8 HB1
  obtain ⟨T12, c12⟩ := F12.out w2
  have C12 := Lib.hid c12; clear c12 F12
  go_wp2_with fail
  refine C12.out.mono ?_
  rintro e w3 ⟨rfl, hb3⟩
  have HB3 := Lib.hid (HB2.out.trans (hb3.mono HB2.out.size)); clear hb3 C12 HB2
  by_cases hr : 1 ≤ n ∧ n ≤ 48
  · obtain ⟨hr1, hr2⟩ := hr
    have k1 : ¬ (n : Int) < 1 := by omega
    have k2 : ¬ (48 : Int) < (n : Int) := by omega
    clear hd he
    go_wp2_with fail
    go_loopw [14, 15] (fun ov i wr => ∃ k : Nat, k ≤ n ∧ i = .int .i64 k ∧ Hid (∀ i, i < k → nmAt l (16 + 4 * i) < 4096) ∧ Hid (OwnI w.heap.size wr ov (nmsL l k)) ∧ Hid (Below w.heap.size w wr)) (fun _ i _ => n - (intOf i).toNat)
    case atStart => exact ⟨0, Nat.zero_le _, rfl, (fun i hi => by omega), World.ownsRow_nil _ _ _ _, HB3⟩
    case round =>
      clear HB3
      obtain ⟨k, hk, rfl, HK, HO, HB⟩ := hrel
      have hbr := HB.out.size
      by_cases hlt : k < n
      · obtain ⟨Tk, ck⟩ := F.out wr (16 + 4 * k) (by omega)
        have hxl := nmAt_lt l (16 + 4 * k)
        have HS := Lib.hid (nmsL_snoc l k)
        obtain ⟨x, hx⟩ : ∃ x, nmAt l (16 + 4 * k) = x := ⟨_, rfl⟩
        rw [hx] at ck hxl HS
        have HX := Lib.hid hx; clear hx
        have CK := Lib.hid ck; clear ck
        have hlen := nmsL_len l k
        obtain ⟨ao, c, hv⟩ := HO.out.shape
        rw [hlen] at hv
        obtain ⟨M, hM⟩ : ∃ M, nmsL l k = M := ⟨_, rfl⟩
        rw [hM] at HO HS hlen
        have HLN := Lib.hid hlen
        clear hM hlen
        subst hv
        have i5 : (16 : Int) + 4 * (k : Int) ≤ (s.size : Int) := by omega
        have i6 : (k : Int) < (n : Int) := by omega
        by_cases hx4 : x < 4096
        · go_wp2_with fail
          refine CK.out.mono ?_
          rintro e w4 ⟨rfl, hb4⟩
          have HB4 := Lib.hid (HB.out.trans (hb4.mono hbr))
          have HO4 := Lib.hid (HO.out.below hb4)
          have hb4r := HB4.out.size
          clear hb4 CK
          have i7 : ¬ (4096 : Int) ≤ (x : Int) := by omega
          go_wp2_with (at_builtin; refine wpList_append_own _ rfl _ _ 57 rfl w.heap.size 3 i0 _ 1 8 Try.underlying57 hi hz0 hz1 HZ2.out rfl (by decide) _ M.length (M.map (Value.int .i64)) rfl (HO4.out.alloc _) _ 1 1 [.int .i64 x] rfl rfl (int_cell (by simp)) int_one ?c3 ?c4 ?c5 ?_)
          case c3 => rw [HLN.out]; unfold maxLen; omega
          case c4 => rw [HLN.out]; omega
          case c5 => simp; omega
          intro v1 w5 hown hgrow _
          have HO5 : Hid (OwnI w.heap.size w5 v1 (nmsL l (k + 1))) := by
            show OwnI _ _ _ _
            rw [HS.out]; exact own_pushI hown
          have HB5 : Hid (Below w.heap.size w w5) := (HB4.out.alloc hb4r _).grown hgrow (by simp; omega) (fun q hq => (HO4.out.lt q hq).1)
          clear hown hgrow
          go_wp2
          go_roundw
          case rel => exact ⟨k + 1, by omega, by go_num, (fun i hi => by
              by_cases e : i = k
              · subst e; rw [HX.out]; exact hx4
              · exact HK.out i (by omega)), HO5, HB5⟩
          case measure => simp [intOf]; omega
        · have HE : Hid (¬ (1 ≤ n ∧ n ≤ 48 ∧ takeB n 58 ((l.take 248).drop 16) = true)) := fun hh => by
            have := ((takeB_iff _ _ _).1 hh.2.2 k (by omega)).1 hlt
            rw [nmAt_drop, nmAt_take _ _ _ (by omega), HX.out] at this
            exact hx4 this
          have i7 : (4096 : Int) ≤ (x : Int) := by omega
          go_wp2_with fail
          refine CK.out.mono ?_
          rintro e w4 ⟨rfl, hb4⟩
          have HB4 := Lib.hid (HB.out.trans (hb4.mono hbr))
          clear hb4 CK
          go_wp2
          go_ret3
          exact HNO.out HE.out _ HB4.out
      · have hkn : k = n := by omega
        subst hkn
        have i6 : ¬ (k : Int) < (k : Int) := by omega
        go_wp2_with fail
        have HO1 : Hid (OwnI w.heap.size wr u14 (blocksOf l)) := by
          show OwnI _ _ _ _
          rw [HBL.out]; exact HO.out
        clear HO
        go_loop [19] (fun i => ∃ j : Nat, 16 + 4 * k ≤ j ∧ j ≤ 248 ∧ i = .int .i64 j ∧ Hid (∀ t, 16 + 4 * k ≤ t → t < j → l.getD t 0 = 0)) (fun i => 248 - (intOf i).toNat)
        case atStart => exact ⟨16 + 4 * k, Nat.le_refl _, by omega, by go_num, fun t h1 h2 => by omega⟩
        case round =>
          obtain ⟨j, hj1, hj2, rfl, HJ⟩ := hrel
          by_cases hj : j < 248
          · have hjs : j < s.size := by omega
            have hb := HGD.out j hjs
            obtain ⟨bj, hbj⟩ : ∃ b, s[j] = b := ⟨_, rfl⟩
            rw [hbj] at hb
            have HBJ := Lib.hid hb; clear hb
            have i7 : (j : Int) < 248 := by omega
            have i8 : (j : Int) < (s.size : Int) := by omega
            by_cases h0 : bj = 0
            · have HJ2 : Hid (∀ t, 16 + 4 * k ≤ t → t < j + 1 → l.getD t 0 = 0) := fun t h1 h2 => by
                by_cases e : t = j
                · subst e; rw [← HBJ.out]; exact h0
                · exact HJ.out t h1 (by omega)
              have hne : ((bj.toNat : Int) != 0) = false := by rw [h0]; rfl
              clear h0
              go_wp2
              go_round
              case rel => exact ⟨j + 1, by omega, by omega, by go_num, HJ2⟩
              case measure => simp [intOf]; omega
            · have HE : Hid (¬ (1 ≤ k ∧ k ≤ 48 ∧ takeB k 58 ((l.take 248).drop 16) = true)) := fun hh => by
                have := take_bytes k 58 _ (by omega) hh.2.2 (j - 16) (by omega) (by omega)
                rw [getD_drop, getD_take _ _ _ (by omega), show 16 + (j - 16) = j by omega, ← HBJ.out] at this
                exact h0 this
              have hne : ((bj.toNat : Int) != 0) = true := by
                simp only [bne_iff_ne, ne_eq]
                intro e
                exact h0 (UInt8.toNat_inj.1 (by simpa using e))
              clear h0
              go_wp2
              go_ret3
              exact HNO.out HE.out _ HB.out
          · have HE : Hid (takeB k 58 ((l.take 248).drop 16) = true) := by
              refine bytes_take k 58 _ (fun i hi => ?_) (fun t h1 h2 => ?_)
              · rw [nmAt_drop, nmAt_take _ _ _ (by omega)]; exact HK.out i hi
              · rw [getD_drop, getD_take _ _ _ (by omega)]; exact HJ.out _ (by omega) (by omega)
            have i7 : ¬ (j : Int) < 248 := by omega
            have HS2 : Hid ((hi' : Int) * 4294967296 + (lo : Int) = (sq : Int)) := by show _ = _; rw [HSEQ.out]; omega
            go_wp2
            go_ret3
            rw [HS2.out]
            exact HYES.out hr1 hr2 HE.out _ _ HO1.out HB.out
  · by_cases k1 : (n : Int) < 1
    · go_wp2
      go_ret3
      exact HNO.out (fun hh => hr ⟨hh.1, hh.2.1⟩) _ HB3.out
    · have k2 : (48 : Int) < (n : Int) := by omega
      go_wp2
      go_ret3
      exact HNO.out (fun hh => hr ⟨hh.1, hh.2.1⟩) _ HB3.out

theorem rblocks_no (s : ByteArray) (w : World) (h : headB s.data.toList = false) :
    Calls Try.prog 96 #[.string s] w fun e w' => e = .returned (.tuple #[.int .u64 0, .slice none 0 0, .bool false]) ∧ Below w.heap.size w w' := by
  by_cases h1 : s.size = 256
  · have hl : s.data.toList.length = 256 := by rw [str_len]; exact h1
    by_cases hp : s.extract 0 4 = bs cdxt
    · by_cases hq : s.extract 252 s.size = bs cdxe
      · refine rblocks_form s _ w _ rfl hl hp hq (fun _ w' hb => ⟨rfl, hb⟩) ?_
        intro k1 k2 k3
        exfalso
        rw [Bool.eq_false_iff] at h
        rw [ext_to s _ rfl] at hp
        rw [ext_eq s _ rfl] at hq
        exact h ((headB_iff _).2 ⟨hl, bs_eq hp, bs_eq hq, k1, k2, k3⟩)
      · exact rblocks_end s w h1 hp hq
    · exact rblocks_begin s w h1 hp
  · exact rblocks_size s w (by simp; omega)
theorem rblocks_yes (s : ByteArray) (w : World) (h : headB s.data.toList = true) :
    Calls Try.prog 96 #[.string s] w fun e w' => ∃ v, e = .returned (.tuple #[.int .u64 ((seqOf s.data.toList : Nat) : Int), v, .bool true]) ∧ OwnI w.heap.size w' v (blocksOf s.data.toList) ∧ Below w.heap.size w w' := by
  obtain ⟨h1, h2, h3, h4, h5, h6⟩ := (headB_iff _).1 h
  exact rblocks_form s _ w _ rfl h1 (by rw [ext_to s _ rfl, h2]) (by rw [ext_eq s _ rfl, h3]) (fun hn => absurd ⟨h4, h5, h6⟩ hn) (fun _ _ _ v w' ho hb => ⟨v, rfl, ho, hb⟩)

end Go.Proofs.Ytodfcbpimglhdaa.Fr

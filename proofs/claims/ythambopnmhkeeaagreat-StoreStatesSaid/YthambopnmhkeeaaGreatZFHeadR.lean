/- What the document's own blocks and Head answer: the same. -/
import Derived.Test.YthambopnmhkeeaaGreatZFBase
import Derived.Test.YthambopnmhkeeaaGreatZJBase

namespace Go.Proofs.YthambopnmhkeeaaGreat.Fr
open Go.RowKit

def OwnI (B : Nat) (w : World) (v : Value) (L : List Int) : Prop := w.ownsRow B 3 1 v L.length (L.map (Value.int .i64))
theorem OwnI.below {B : Nat} {w w' : World} {v : Value} {L : List Int} (h : OwnI B w v L) (hb : Below w.heap.size w w') : OwnI B w' v L := own_below h hb
theorem OwnI.mono {B B' : Nat} {w : World} {v : Value} {L : List Int} (h : OwnI B w v L) (hb : B' <= B) : OwnI B' w v L := own_mono h hb
theorem OwnI.shape {B : Nat} {w : World} {v : Value} {L : List Int} (h : OwnI B w v L) : ∃ ao c, v = .slice ao L.length c := by
  rcases h.2 with ⟨e, hn⟩ | ⟨g, cap, cur, e, _⟩
  . exact ⟨none, 0, by rw [e, hn]⟩
  . exact ⟨_, cap, e⟩
theorem OwnI.here {B : Nat} {w : World} {v : Value} {L : List Int} (h : OwnI B w v L) (h0 : 0 < L.length) : ∃ g c, v = .slice (some ⟨g, 0, none⟩) L.length c /\ g < w.heap.size /\ ∀ j (hj : j < L.length), w.cell? ⟨g, j, none⟩ = some (.int .i64 L[j]) := by
  have hO := h
  rcases h.2 with ⟨_, hn⟩ | ⟨g, cap, cur, rfl, hbg, hg, hc, _⟩
  . omega
  . refine ⟨g, cap, rfl, (Array.getElem?_eq_some_iff.1 hg).1, fun j hj => ?_⟩
    rw [World.ownsRow.cellAt hO j (by omega)]
    simp [hj]
theorem own_pushI {B : Nat} {w1 : World} {v1 : Value} {M : List Int} {i : Int} (hown : w1.ownsRow B 3 1 v1 (M.length + 1) (M.map (Value.int .i64) ++ [.int .i64 i])) : OwnI B w1 v1 (M ++ [i]) := by
  unfold OwnI
  rw [List.length_append, List.map_append]
  exact hown
theorem int_cell {w : World} {t : TypeId} {i : Int} {g : Nat} (hg : w.heap.size = g) : ∀ (j : Nat) (u : Value), [Value.int .i64 i][j]? = some u -> (w.alloc (.cells #[.int .i64 i] t)).cell? ((⟨g, 0, none⟩ : Addr).add j) = some u := by
  subst hg
  intro j u hu
  cases j with
  | zero => rw [add_at, cell_at (heap_alloc_new ..)]; exact hu
  | succ j => simp at hu
theorem int_one {i : Int} : ∀ u ∈ [Value.int .i64 i], u.oneCell' = true := by intro u hu; simp at hu; subst hu; rfl
def nmsL (l : List UInt8) (k : Nat) : List Int := (List.range k).map fun i => ((nmAt l (16 + 4 * i) : Nat) : Int)
theorem nmsL_len (l : List UInt8) (k : Nat) : (nmsL l k).length = k := by simp [nmsL]
theorem nmsL_snoc (l : List UInt8) (k : Nat) : nmsL l (k + 1) = nmsL l k ++ [((nmAt l (16 + 4 * k) : Nat) : Int)] := by unfold nmsL; rw [List.range_succ, List.map_append]; rfl
theorem ext_eq (s : ByteArray) (l : List UInt8) (hl : s.data.toList = l) (k : Nat) : s.extract k s.size = bs (l.drop k) := by
  subst hl
  have := bs_ext s.data.toList k s.size
  rw [bs_data] at this
  rw [this, List.take_of_length_le (by rw [str_len]; exact Nat.le_refl _)]
theorem ext_to (s : ByteArray) (l : List UInt8) (hl : s.data.toList = l) (k : Nat) : s.extract 0 k = bs (l.take k) := by
  subst hl
  have := bs_ext s.data.toList 0 k
  rw [bs_data, List.drop_zero] at this
  exact this

set_option maxRecDepth 100000 in
set_option maxHeartbeats 1000000 in
theorem rblocks_size (s : ByteArray) (w : World) (h : ((s.size : Int) != 256) = true) :
    Calls Tryz.prog 209 #[.string s] w fun e w' => e = .returned (.tuple #[.int .u64 0, .slice none 0 0, .bool false]) /\ Below w.heap.size w w' := by
  go_enter Tryz.func209, Tryz.ntmps209
  go_wp2
  go_ret3
  exact ⟨rfl, Below.refl _ _⟩
theorem lit_diff {X : ByteArray} {l : List UInt8} (h : X ≠ bs l) : (X.toList == l) = false := by
  have := str_diff h
  rw [ByteArray.toList_eq (bs l)] at this
  exact this
theorem lit_same {X : ByteArray} {l : List UInt8} (h : X = bs l) : (X.toList == l) = true := by
  have := str_same h
  rw [ByteArray.toList_eq (bs l)] at this
  exact this
set_option maxRecDepth 100000 in
set_option maxHeartbeats 1000000 in
theorem rblocks_begin (s : ByteArray) (w : World) (hz : s.size = 256) (hp : s.extract 0 4 ≠ bs cdxt) :
    Calls Tryz.prog 209 #[.string s] w fun e w' => e = .returned (.tuple #[.int .u64 0, .slice none 0 0, .bool false]) /\ Below w.heap.size w w' := by
  have h : ((s.size : Int) != 256) = false := by simp; omega
  have i1 : (4 : Int) <= (s.size : Int) := by omega
  have hd : (!((s.extract 0 4).toList == [67, 68, 88, 84])) = true := by rw [show ([67, 68, 88, 84] : List UInt8) = cdxt from rfl, lit_diff hp]; rfl
  clear hp hz
  obtain ⟨X, hX⟩ : ∃ X, s.extract 0 4 = X := ⟨_, rfl⟩
  rw [hX] at hd
  go_enter Tryz.func209, Tryz.ntmps209
  go_wp2
  go_ret3
  exact ⟨rfl, Below.refl _ _⟩
set_option maxRecDepth 100000 in
set_option maxHeartbeats 1000000 in
theorem rblocks_end (s : ByteArray) (w : World) (hz : s.size = 256) (hp : s.extract 0 4 = bs cdxt) (hq : s.extract 252 s.size ≠ bs cdxe) :
    Calls Tryz.prog 209 #[.string s] w fun e w' => e = .returned (.tuple #[.int .u64 0, .slice none 0 0, .bool false]) /\ Below w.heap.size w w' := by
  have h : ((s.size : Int) != 256) = false := by simp; omega
  have i1 : (4 : Int) <= (s.size : Int) := by omega
  have i2 : (252 : Int) <= (s.size : Int) := by omega
  have hd : (!((s.extract 0 4).toList == [67, 68, 88, 84])) = false := by rw [show ([67, 68, 88, 84] : List UInt8) = cdxt from rfl, lit_same hp]; rfl
  have he : (!((s.extract 252 s.size).toList == [67, 68, 88, 69])) = true := by rw [show ([67, 68, 88, 69] : List UInt8) = cdxe from rfl, lit_diff hq]; rfl
  clear hp hq hz
  obtain ⟨X, hX⟩ : ∃ X, s.extract 0 4 = X := ⟨_, rfl⟩
  rw [hX] at hd
  obtain ⟨Y, hY⟩ : ∃ Y, s.extract 252 s.size = Y := ⟨_, rfl⟩
  rw [hY] at he
  go_enter Tryz.func209, Tryz.ntmps209
  go_wp2
  go_ret3
  exact ⟨rfl, Below.refl _ _⟩

set_option maxRecDepth 100000 in
set_option maxHeartbeats 4000000 in
theorem rblocks_form (s : ByteArray) (l : List UInt8) (w : World) (R : Ending -> World -> Prop) (hl : s.data.toList = l) (hn : l.length = 256) (hp : s.extract 0 4 = bs cdxt) (hq : s.extract 252 s.size = bs cdxe)
    (hno : ¬ (1 <= nmAt l 12 /\ nmAt l 12 <= 48 /\ takeB (nmAt l 12) 58 ((l.take 248).drop 16) = true) -> ∀ w', Below w.heap.size w w' -> R (.returned (.tuple #[.int .u64 0, .slice none 0 0, .bool false])) w')
    (hyes : 1 <= nmAt l 12 -> nmAt l 12 <= 48 -> takeB (nmAt l 12) 58 ((l.take 248).drop 16) = true -> ∀ v w', OwnI w.heap.size w' v (blocksOf l) -> Below w.heap.size w w' -> R (.returned (.tuple #[.int .u64 ((seqOf l : Nat) : Int), v, .bool true])) w') :
    Calls Tryz.prog 209 #[.string s] w R := by
  obtain ⟨i0, hi, hz0, hz1, hz2⟩ := info_parts Tryz.infoI
  have HZ2 := Lib.hid hz2; clear hz2
  have hsz : s.size = 256 := by rw [<- str_len, hl, hn]
  have h1 : ((s.size : Int) != 256) = false := by simp; omega
  have i1 : (4 : Int) <= (s.size : Int) := by omega
  have i2 : (252 : Int) <= (s.size : Int) := by omega
  have i3 : (8 : Int) <= (s.size : Int) := by omega
  have i4 : (12 : Int) <= (s.size : Int) := by omega
  have hd : (!((s.extract 0 4).toList == [67, 68, 88, 84])) = false := by rw [show ([67, 68, 88, 84] : List UInt8) = cdxt from rfl, lit_same hp]; rfl
  have he : (!((s.extract 252 s.size).toList == [67, 68, 88, 69])) = false := by rw [show ([67, 68, 88, 69] : List UInt8) = cdxe from rfl, lit_same hq]; rfl
  clear hp hq
  have HNO := Lib.hid hno; clear hno
  have HYES := Lib.hid hyes; clear hyes
  have F : Hid (∀ W k, k + 4 <= 256 -> ∃ T2, Calls Tryz.prog 179 #[.string (s.extract k s.size)] W fun e w' => e = .returned (.tuple #[.int .u32 ((nmAt l k : Nat) : Int), .string T2, .bool true]) /\ Below W.heap.size W w') := fun W k hk =>
    ⟨_, rtoFixed_at W (ext_eq s l hl k) rfl (by omega) (by omega)⟩
  have x4 := nmAt_lt l 4
  have x8 := nmAt_lt l 8
  have x12 := nmAt_lt l 12
  have HSEQ : Hid (seqOf l = nmAt l 4 + 4294967296 * nmAt l 8) := rfl
  have HBL : Hid (blocksOf l = nmsL l (nmAt l 12)) := rfl
  have F4 := Lib.hid (fun W => F.out W 4 (by omega))
  have F8 := Lib.hid (fun W => F.out W 8 (by omega))
  have F12 := Lib.hid (fun W => F.out W 12 (by omega))
  have HGD : Hid (∀ j (h : j < s.size), s[j] = l.getD j 0) := fun j hj => by
    subst hl
    have h' : j < s.data.toList.length := by rw [str_len]; exact hj
    rw [getD_at _ j h']; rfl
  obtain ⟨lo, hlo⟩ : ∃ x, nmAt l 4 = x := ⟨_, rfl⟩
  obtain ⟨hi', hhi⟩ : ∃ x, nmAt l 8 = x := ⟨_, rfl⟩
  obtain ⟨n, hnn⟩ : ∃ x, nmAt l 12 = x := ⟨_, rfl⟩
  rw [hlo] at F4 x4 HSEQ
  rw [hhi] at F8 x8 HSEQ
  rw [hnn] at F12 HNO HYES x12 HBL
  obtain ⟨sq, hsq⟩ : ∃ x, seqOf l = x := ⟨_, rfl⟩
  rw [hsq] at HSEQ HYES
  have HL := Lib.hid hl
  clear hlo hhi hnn hsq hl hn
  have HSZ := Lib.hid hsz
  have zz1 : s.size <= 256 := by omega
  have zz2 : 256 <= s.size := by omega
  clear hsz
  go_enter Tryz.func209, Tryz.ntmps209
  obtain ⟨T4, c4⟩ := F4.out w
  have C4 := Lib.hid c4; clear c4 F4
  go_wp2_with fail
  refine C4.out.mono ?_
  rintro e w1 ⟨rfl, hb1⟩
  have HB1 := Lib.hid hb1; clear hb1 C4
  obtain ⟨T8, c8⟩ := F8.out w1
  have C8 := Lib.hid c8; clear c8 F8
  go_wp2_with fail
  refine C8.out.mono ?_
  rintro e w2 ⟨rfl, hb2⟩
  have HB2 := Lib.hid (HB1.out.trans (hb2.mono HB1.out.size)); clear hb2 C8 HB1
  obtain ⟨T12, c12⟩ := F12.out w2
  have C12 := Lib.hid c12; clear c12 F12
  go_wp2_with fail
  refine C12.out.mono ?_
  rintro e w3 ⟨rfl, hb3⟩
  have HB3 := Lib.hid (HB2.out.trans (hb3.mono HB2.out.size)); clear hb3 C12 HB2
  by_cases hr : 1 <= n /\ n <= 48
  . obtain ⟨hr1, hr2⟩ := hr
    have k1 : ¬ (n : Int) < 1 := by omega
    have k2 : ¬ (48 : Int) < (n : Int) := by omega
    clear hd he
    go_wp2_with fail
    go_loopw [14, 15] (fun ov i wr => ∃ k : Nat, k <= n /\ i = .int .i64 k /\ Hid (∀ i, i < k -> nmAt l (16 + 4 * i) < 4096) /\ Hid (OwnI w.heap.size wr ov (nmsL l k)) /\ Hid (Below w.heap.size w wr)) (fun _ i _ => n - (intOf i).toNat)
    case atStart => exact ⟨0, Nat.zero_le _, rfl, (fun i hi => by omega), World.ownsRow_nil _ _ _ _, HB3⟩
    case round =>
      clear HB3
      obtain ⟨k, hk, rfl, HK, HO, HB⟩ := hrel
      have hbr := HB.out.size
      by_cases hlt : k < n
      . obtain ⟨Tk, ck⟩ := F.out wr (16 + 4 * k) (by omega)
        have hxl := nmAt_lt l (16 + 4 * k)
        have HS := Lib.hid (nmsL_snoc l k)
        obtain ⟨x, hx⟩ : ∃ x, nmAt l (16 + 4 * k) = x := ⟨_, rfl⟩
        rw [hx] at ck hxl HS
        have HX := Lib.hid hx; clear hx
        have CK := Lib.hid ck; clear ck
        have hlen := nmsL_len l k
        obtain ⟨ao, c, hv⟩ := HO.out.shape
        rw [hlen] at hv
        obtain ⟨M, hM⟩ : ∃ M, nmsL l k = M := ⟨_, rfl⟩
        rw [hM] at HO HS hlen
        have HLN := Lib.hid hlen
        clear hM hlen
        subst hv
        have i5 : (16 : Int) + 4 * (k : Int) <= (s.size : Int) := by omega
        have i6 : (k : Int) < (n : Int) := by omega
        by_cases hx4 : x < 4096
        . go_wp2_with fail
          refine CK.out.mono ?_
          rintro e w4 ⟨rfl, hb4⟩
          have HB4 := Lib.hid (HB.out.trans (hb4.mono hbr))
          have HO4 := Lib.hid (HO.out.below hb4)
          have hb4r := HB4.out.size
          clear hb4 CK
          have i7 : ¬ (4096 : Int) <= (x : Int) := by omega
          go_wp2_with (at_builtin; refine wpList_append_own _ rfl _ _ 175 rfl w.heap.size 3 i0 _ 1 8 Tryz.underlying175 hi hz0 hz1 HZ2.out rfl (by decide) _ M.length (M.map (Value.int .i64)) rfl (HO4.out.alloc _) _ 1 1 [.int .i64 x] rfl rfl (int_cell (by simp)) int_one ?c3 ?c4 ?c5 ?_)
          case c3 => rw [HLN.out]; unfold maxLen; omega
          case c4 => rw [HLN.out]; omega
          case c5 => simp; omega
          intro v1 w5 hown hgrow _
          have HO5 : Hid (OwnI w.heap.size w5 v1 (nmsL l (k + 1))) := by
            show OwnI _ _ _ _
            rw [HS.out]; exact own_pushI hown
          have HB5 : Hid (Below w.heap.size w w5) := (HB4.out.alloc hb4r _).grown hgrow (by simp; omega) (fun q hq => (HO4.out.lt q hq).1)
          clear hown hgrow
          go_wp2
          go_roundw
          case rel => exact ⟨k + 1, by omega, by go_num, (fun i hi => by
              by_cases e : i = k
              . subst e; rw [HX.out]; exact hx4
              . exact HK.out i (by omega)), HO5, HB5⟩
          case measure => simp [intOf]; omega
        . have HE : Hid (¬ (1 <= n /\ n <= 48 /\ takeB n 58 ((l.take 248).drop 16) = true)) := fun hh => by
            have := ((takeB_iff _ _ _).1 hh.2.2 k (by omega)).1 hlt
            rw [nmAt_drop, nmAt_take _ _ _ (by omega), HX.out] at this
            exact hx4 this
          have i7 : (4096 : Int) <= (x : Int) := by omega
          go_wp2_with fail
          refine CK.out.mono ?_
          rintro e w4 ⟨rfl, hb4⟩
          have HB4 := Lib.hid (HB.out.trans (hb4.mono hbr))
          clear hb4 CK
          go_wp2
          go_ret3
          exact HNO.out HE.out _ HB4.out
      . have hkn : k = n := by omega
        subst hkn
        have i6 : ¬ (k : Int) < (k : Int) := by omega
        go_wp2_with fail
        have HO1 : Hid (OwnI w.heap.size wr u14 (blocksOf l)) := by
          show OwnI _ _ _ _
          rw [HBL.out]; exact HO.out
        clear HO
        go_loop [19] (fun i => ∃ j : Nat, 16 + 4 * k <= j /\ j <= 248 /\ i = .int .i64 j /\ Hid (∀ t, 16 + 4 * k <= t -> t < j -> l.getD t 0 = 0)) (fun i => 248 - (intOf i).toNat)
        case atStart => exact ⟨16 + 4 * k, Nat.le_refl _, by omega, by go_num, fun t h1 h2 => by omega⟩
        case round =>
          obtain ⟨j, hj1, hj2, rfl, HJ⟩ := hrel
          by_cases hj : j < 248
          . have hjs : j < s.size := by omega
            have hb := HGD.out j hjs
            obtain ⟨bj, hbj⟩ : ∃ b, s[j] = b := ⟨_, rfl⟩
            rw [hbj] at hb
            have HBJ := Lib.hid hb; clear hb
            have i7 : (j : Int) < 248 := by omega
            have i8 : (j : Int) < (s.size : Int) := by omega
            by_cases h0 : bj = 0
            . have HJ2 : Hid (∀ t, 16 + 4 * k <= t -> t < j + 1 -> l.getD t 0 = 0) := fun t h1 h2 => by
                by_cases e : t = j
                . subst e; rw [<- HBJ.out]; exact h0
                . exact HJ.out t h1 (by omega)
              have hne : ((bj.toNat : Int) != 0) = false := by rw [h0]; rfl
              clear h0
              go_wp2
              go_round
              case rel => exact ⟨j + 1, by omega, by omega, by go_num, HJ2⟩
              case measure => simp [intOf]; omega
            . have HE : Hid (¬ (1 <= k /\ k <= 48 /\ takeB k 58 ((l.take 248).drop 16) = true)) := fun hh => by
                have := take_bytes k 58 _ (by omega) hh.2.2 (j - 16) (by omega) (by omega)
                rw [getD_drop, getD_take _ _ _ (by omega), show 16 + (j - 16) = j by omega, <- HBJ.out] at this
                exact h0 this
              have hne : ((bj.toNat : Int) != 0) = true := by
                simp only [bne_iff_ne, ne_eq]
                intro e
                exact h0 (UInt8.toNat_inj.1 (by simpa using e))
              clear h0
              go_wp2
              go_ret3
              exact HNO.out HE.out _ HB.out
          . have HE : Hid (takeB k 58 ((l.take 248).drop 16) = true) := by
              refine bytes_take k 58 _ (fun i hi => ?_) (fun t h1 h2 => ?_)
              . rw [nmAt_drop, nmAt_take _ _ _ (by omega)]; exact HK.out i hi
              . rw [getD_drop, getD_take _ _ _ (by omega)]; exact HJ.out _ (by omega) (by omega)
            have i7 : ¬ (j : Int) < 248 := by omega
            have HS2 : Hid ((hi' : Int) * 4294967296 + (lo : Int) = (sq : Int)) := by show _ = _; rw [HSEQ.out]; omega
            go_wp2
            go_ret3
            rw [HS2.out]
            exact HYES.out hr1 hr2 HE.out _ _ HO1.out HB.out
  . by_cases k1 : (n : Int) < 1
    . go_wp2
      go_ret3
      exact HNO.out (fun hh => hr ⟨hh.1, hh.2.1⟩) _ HB3.out
    . have k2 : (48 : Int) < (n : Int) := by omega
      go_wp2
      go_ret3
      exact HNO.out (fun hh => hr ⟨hh.1, hh.2.1⟩) _ HB3.out

theorem rblocks_no (s : ByteArray) (w : World) (h : headB s.data.toList = false) :
    Calls Tryz.prog 209 #[.string s] w fun e w' => e = .returned (.tuple #[.int .u64 0, .slice none 0 0, .bool false]) /\ Below w.heap.size w w' := by
  by_cases h1 : s.size = 256
  . have hl : s.data.toList.length = 256 := by rw [str_len]; exact h1
    by_cases hp : s.extract 0 4 = bs cdxt
    . by_cases hq : s.extract 252 s.size = bs cdxe
      . refine rblocks_form s _ w _ rfl hl hp hq (fun _ w' hb => ⟨rfl, hb⟩) ?_
        intro k1 k2 k3
        exfalso
        rw [Bool.eq_false_iff] at h
        rw [ext_to s _ rfl] at hp
        rw [ext_eq s _ rfl] at hq
        exact h ((headB_iff _).2 ⟨hl, bs_eq hp, bs_eq hq, k1, k2, k3⟩)
      . exact rblocks_end s w h1 hp hq
    . exact rblocks_begin s w h1 hp
  . exact rblocks_size s w (by simp; omega)
theorem rblocks_yes (s : ByteArray) (w : World) (h : headB s.data.toList = true) :
    Calls Tryz.prog 209 #[.string s] w fun e w' => ∃ v, e = .returned (.tuple #[.int .u64 ((seqOf s.data.toList : Nat) : Int), v, .bool true]) /\ OwnI w.heap.size w' v (blocksOf s.data.toList) /\ Below w.heap.size w w' := by
  obtain ⟨h1, h2, h3, h4, h5, h6⟩ := (headB_iff _).1 h
  exact rblocks_form s _ w _ rfl h1 (by rw [ext_to s _ rfl, h2]) (by rw [ext_eq s _ rfl, h3]) (fun hn => absurd ⟨h4, h5, h6⟩ hn) (fun _ _ _ v w' ho hb => ⟨v, rfl, ho, hb⟩)

end Go.Proofs.YthambopnmhkeeaaGreat.Fr
/- What Unpack answers: what was packed, or why there is nothing. -/
namespace Go.Proofs.YthambopnmhkeeaaGreat.Fr
open Go.RowKit

def filled (q : List UInt8) (n : Nat) (D : List ByteArray) (k : Nat) : List (Int × ByteArray) := (List.range n).map fun i => (((nmAt q (4 * i) : Nat) : Int), if i < k then D.getD i ⟨#[]⟩ else ⟨#[]⟩)
theorem filled_len (q : List UInt8) (n : Nat) (D : List ByteArray) (k : Nat) : (filled q n D k).length = n := by simp [filled]
theorem filled_zero (q : List UInt8) (n : Nat) (D : List ByteArray) : filled q n D 0 = takenL q n := by
  unfold filled takenL
  apply List.map_congr_left
  intro i _
  rw [if_neg (by omega)]
theorem filled_at (q : List UInt8) (n : Nat) (D : List ByteArray) (k i : Nat) (h : i < n) : (filled q n D k)[i]'(by rw [filled_len]; exact h) = (((nmAt q (4 * i) : Nat) : Int), if i < k then D.getD i ⟨#[]⟩ else ⟨#[]⟩) := by
  simp [filled]
theorem filled_set (q : List UInt8) (n : Nat) (D : List ByteArray) (k : Nat) (h : k < n) (hD : k < D.length) : (filled q n D k).set k (((filled q n D k)[k]'(by rw [filled_len]; exact h)).1, D[k]) = filled q n D (k + 1) := by
  apply List.ext_getElem
  . simp [filled_len]
  . intro i h1 h2
    rw [filled_len] at h2
    rw [filled_at q n D (k + 1) i h2, List.getElem_set]
    by_cases e : k = i
    . subst e
      rw [if_pos rfl]
      refine Prod.ext ?_ ?_
      . show ((filled q n D k)[k]'(by rw [filled_len]; exact h)).1 = _
        rw [filled_at q n D k k h]
      . show D[k] = if k < k + 1 then D.getD k ⟨#[]⟩ else ⟨#[]⟩
        rw [if_pos (by omega)]; simp [hD]
    . rw [if_neg e, filled_at q n D k i h2]
      by_cases hi : i < k
      . rw [if_pos hi, if_pos (by omega)]
      . rw [if_neg hi, if_neg (by omega)]
theorem OwnW.storeN {B : Nat} {w : World} {g c n : Nat} {L L' : List (Int × ByteArray)} (h : OwnW B w (.slice (some ⟨g, 0, none⟩) n c) L) (hn : L.length = n) (j : Nat) (hj : j < L.length) (s : ByteArray) (hL : L.set j (L[j].1, s) = L') :
    OwnW B (w.setCell ⟨g, j * 2 + 1, none⟩ (.string s)) (.slice (some ⟨g, 0, none⟩) n c) L' := by
  subst hn
  rw [<- hL]; exact h.storeD j hj s
theorem filled_all (l : List UInt8) (D : List ByteArray) (hn : nmAt l 12 <= D.length) (h48 : nmAt l 12 <= 48) : filled ((l.take 248).drop 16) (nmAt l 12) D (nmAt l 12) = (blocksOf l).zip (D.take (nmAt l 12)) := by
  apply List.ext_getElem
  . rw [filled_len, List.length_zip, blocksOf_len, List.length_take]; omega
  . intro i h1 h2
    rw [filled_len] at h1
    rw [filled_at _ _ _ _ _ h1, if_pos h1, List.getElem_zip]
    refine Prod.ext ?_ ?_
    . simp only [blocksOf, List.getElem_map, List.getElem_range]
      rw [nmAt_drop, nmAt_take _ _ _ (by omega)]
    . have : i < D.length := by omega
      simp [this]

set_option maxRecDepth 100000 in
set_option maxHeartbeats 1000000 in
theorem unpack_none (ao : Option Addr) (c : Nat) (w : World) :
    Calls Tryz.prog 206 #[.slice ao 0 c] w fun e w' => e = .returned (.tuple #[.int .u64 0, .slice none 0 0, .int .i64 7]) /\ Below w.heap.size w w' := by
  go_enter Tryz.func206, Tryz.ntmps206
  go_wp2
  go_ret3
  exact ⟨rfl, Below.refl _ _⟩
set_option maxRecDepth 100000 in
set_option maxHeartbeats 1000000 in
theorem unpack_nohead (s : ByteArray) (m b off c : Nat) (w : World) (h : headB s.data.toList = false) (hm : m <= 1000) (hc : w.cell? ⟨b, off, none⟩ = some (.string s)) :
    Calls Tryz.prog 206 #[.slice (some ⟨b, off, none⟩) (m + 1) c] w fun e w' => e = .returned (.tuple #[.int .u64 0, .slice none 0 0, .int .i64 7]) /\ Below w.heap.size w w' := by
  have C := Lib.hid (readHead_no s w h)
  clear h
  have h0 : (((m : Int) + 1) == 0) = false := beq_eq_false_iff_ne.2 (by omega)
  go_enter Tryz.func206, Tryz.ntmps206
  go_wp2_with fail
  refine C.out.mono ?_
  rintro e w1 ⟨rfl, hb1⟩
  have HB := Lib.hid hb1; clear hb1 C
  go_wp2
  go_ret3
  exact ⟨rfl, HB.out⟩
set_option maxRecDepth 100000 in
set_option maxHeartbeats 1000000 in
theorem unpack_few (s : ByteArray) (m b off c : Nat) (w : World) (h : headB s.data.toList = true) (hm : m <= 1000) (hn : m < nmAt s.data.toList 12) (hc : w.cell? ⟨b, off, none⟩ = some (.string s)) :
    Calls Tryz.prog 206 #[.slice (some ⟨b, off, none⟩) (m + 1) c] w fun e w' => e = .returned (.tuple #[.int .u64 0, .slice none 0 0, .int .i64 7]) /\ Below w.heap.size w w' := by
  have C := Lib.hid (readHead_yes s w h)
  clear h
  have h0 : (((m : Int) + 1) == 0) = false := beq_eq_false_iff_ne.2 (by omega)
  generalize seqOf s.data.toList = sq at *
  generalize nmAt s.data.toList 12 = n at *
  go_enter Tryz.func206, Tryz.ntmps206
  go_wp2_with fail
  refine C.out.mono ?_
  rintro e w1 ⟨v, rfl, ho, hb1⟩
  have HB := Lib.hid hb1; clear hb1 C
  obtain ⟨ao, c2, hv, _⟩ := ho.sl
  rw [takenL_len] at hv
  subst hv
  clear ho
  go_wp2
  go_ret3
  exact ⟨rfl, HB.out⟩

set_option maxRecDepth 100000 in
set_option maxHeartbeats 4000000 in
theorem unpack_head (s : ByteArray) (D : List ByteArray) (b off c : Nat) (w : World) (R : Ending -> World -> Prop) (h : headB s.data.toList = true) (hm : D.length <= 1000) (hn : nmAt s.data.toList 12 <= D.length) (hcap : D.length <= c) (hb : b < w.heap.size) (hD : ∀ d ∈ D, d.size <= maxLen)
    (hc : StrsAt w b off (s :: D))
    (hform : (¬ ∀ d ∈ D.take (nmAt s.data.toList 12), d.size = 256) -> ∀ w', Below w.heap.size w w' -> R (.returned (.tuple #[.int .u64 0, .slice none 0 0, .int .i64 7])) w')
    (hsum : (∀ d ∈ D.take (nmAt s.data.toList 12), d.size = 256) -> sumB s D = false -> ∀ w', Below w.heap.size w w' -> R (.returned (.tuple #[.int .u64 0, .slice none 0 0, .int .i64 8])) w')
    (hok : (∀ d ∈ D.take (nmAt s.data.toList 12), d.size = 256) -> sumB s D = true -> ∀ v w', OwnW w.heap.size w' v ((blocksOf s.data.toList).zip (D.take (nmAt s.data.toList 12))) -> Below w.heap.size w w' -> R (.returned (.tuple #[.int .u64 ((seqOf s.data.toList : Nat) : Int), v, .int .i64 0])) w') :
    Calls Tryz.prog 206 #[.slice (some ⟨b, off, none⟩) (D.length + 1) (c + 1)] w R := by
  obtain ⟨k1, k2, k3, k4, k5, k6⟩ := (headB_iff _).1 h
  have hsz : s.size = 256 := by rw [<- str_len, k1]
  have C := Lib.hid (readHead_yes s w h)
  have HFA := Lib.hid (filled_all s.data.toList D hn k5)
  rw [<- filled_zero _ _ D] at C
  have hc0 := hc 0 (by simp)
  simp only [Nat.add_zero, List.getElem_cons_zero] at hc0
  have HC := Lib.hid hc.tail
  have HCC := Lib.hid hc
  have HF := Lib.hid hform
  have HS := Lib.hid hsum
  have HO := Lib.hid hok
  have HDD := Lib.hid hD
  have h248 := nmAt_lt s.data.toList 248
  obtain ⟨T1, hT1⟩ : ∃ T, s.extract 248 s.size = T := ⟨_, rfl⟩
  have hT1' : s.extract 248 256 = T1 := by rw [<- hT1, hsz]
  have F1 : Hid (∀ W, ∃ T2, Calls Tryz.prog 204 #[.string T1] W fun e w' => e = .returned (.tuple #[.int .u32 ((nmAt s.data.toList 248 : Nat) : Int), .string T2, .bool true]) /\ Below W.heap.size W w') := fun W =>
    ⟨_, toFixed_at W (by rw [<- hT1, <- bs_data s, bs_ext, bs_len, data_bs, List.take_of_length_le (Nat.le_refl _)]) rfl (by omega) (by omega)⟩
  have CS : Hid (∀ W, Below w.heap.size w W -> Calls Tryz.prog 177 #[.slice (some ⟨b, off, none⟩) (nmAt s.data.toList 12 + 1) (c + 1)] W fun e w' => e = .returned (.int .u32 ((crcL (s.data.toList.take 248 ++ joinB (D.take (nmAt s.data.toList 12))) : Nat) : Int)) /\ Below W.heap.size W w') := by
    intro W hW
    have e : (D.take (nmAt s.data.toList 12)).length = nmAt s.data.toList 12 := by rw [List.length_take]; omega
    have := sum_any s (D.take (nmAt s.data.toList 12)) b off c W (by omega) (by omega) (by omega) (by omega) (fun d hd => HDD.out d (List.mem_of_mem_take hd)) (Nat.lt_of_lt_of_le hb hW.size) (fun j hj => by
      have hj' : j < (s :: D).length := by simp at hj ⊢; omega
      rw [(hc.below hW hb) j hj']
      cases j with
      | zero => rfl
      | succ j => simp)
    rw [e] at this
    exact this
  have hcl := crcL_lt (s.data.toList.take 248 ++ joinB (D.take (nmAt s.data.toList 12)))
  have HSB : Hid (sumB s D = (nmAt s.data.toList 248 == crcL (s.data.toList.take 248 ++ joinB (D.take (nmAt s.data.toList 12))))) := rfl
  clear hD hc h k1 k2 k3 k6 hform hsum hok
  generalize crcL (s.data.toList.take 248 ++ joinB (D.take (nmAt s.data.toList 12))) = sm at *
  generalize seqOf s.data.toList = sq at *
  generalize nmAt s.data.toList 248 = told at *
  generalize (s.data.toList.take 248).drop 16 = q at *
  generalize blocksOf s.data.toList = bl at *
  generalize nmAt s.data.toList 12 = n at *
  obtain ⟨m, hmm⟩ : ∃ m, D.length = m := ⟨_, rfl⟩
  rw [hmm] at hm hn hcap ⊢
  have HM := Lib.hid hmm; clear hmm
  have h0 : (((m : Int) + 1) == 0) = false := beq_eq_false_iff_ne.2 (by omega)
  have h1 : ¬ ((m : Int) + 1 <= (n : Int)) := by omega
  go_enter Tryz.func206, Tryz.ntmps206
  go_wp2_with fail
  refine C.out.mono ?_
  rintro e w1 ⟨v, rfl, ho, hb1⟩
  have HB1 := Lib.hid hb1
  obtain ⟨g, c2, hv, hc2, hg1, hg2, hst, hfr⟩ := ho.here (by rw [filled_len]; omega)
  rw [filled_len] at hv hc2
  subst hv
  have HO1 := Lib.hid ho
  clear ho hb1 C hst hfr
  go_wp2_with fail
  go_loopw [34] (fun i wr => ∃ k : Nat, k <= n /\ i = .int .i64 k /\ Hid (∀ d ∈ D.take k, d.size = 256) /\ Hid (OwnW w.heap.size wr (.slice (some ⟨g, 0, none⟩) n c2) (filled q n D k)) /\ Hid (Below w.heap.size w wr)) (fun i _ => n - (intOf i).toNat)
  case atStart => exact ⟨0, Nat.zero_le _, rfl, (fun d hd => by simp at hd), HO1, HB1⟩
  case round =>
    clear HO1 HB1
    obtain ⟨k, hk, rfl, HK, HOK, HB⟩ := hrel
    by_cases hlt : k < n
    . have hkD : k < D.length := by rw [HM.out]; omega
      have hst := HOK.out.here (by rw [filled_len]; omega)
      obtain ⟨g', c3, hv, _, _, hgl, hst, hfr⟩ := hst
      rw [filled_len] at hv
      obtain ⟨rfl, rfl⟩ : g = g' /\ c2 = c3 := by simpa using hv
      have hf1 := hfr (k * 2 + 1)
      obtain ⟨d0, d1⟩ := hst k (by rw [filled_len]; exact hlt)
      rw [Nat.zero_add] at d0 d1
      rw [filled_at _ _ _ _ _ hlt, if_neg (by omega)] at d1
      have hsrc := (HC.out.below HB.out hb) k hkD
      have HST : Hid (∀ W, OwnW w.heap.size W (.slice (some ⟨g, 0, none⟩) n c2) (filled q n D k) -> OwnW w.heap.size (W.setCell ⟨g, k * 2 + 1, none⟩ (.string D[k])) (.slice (some ⟨g, 0, none⟩) n c2) (filled q n D (k + 1))) := by
        intro W hW
        exact hW.storeN (filled_len ..) k (by rw [filled_len]; exact hlt) D[k] (filled_set q n D k hlt hkD)
      have hdz := HDD.out D[k] (List.getElem_mem hkD)
      unfold maxLen at hdz
      have HTK : Hid (D.take (k + 1) = D.take k ++ [D[k]]) := List.take_succ_eq_append_getElem hkD
      have HMEM : Hid (D[k] ∈ D.take n) := by
        rw [List.mem_take_iff_getElem]
        exact ⟨k, by omega, rfl⟩
      clear hst hfr hv d0
      generalize D[k] = d at *
      have hsum1 : off + 1 + k = off + (k + 1) := by omega
      rw [hsum1] at hsrc
      clear hsum1
      have i2 : (k : Int) + 1 < (m : Int) + 1 := by omega
      by_cases hd : d.size = 256
      . have HK2 : Hid (∀ d ∈ D.take (k + 1), d.size = 256) := by
          intro x hx
          rw [HTK.out] at hx
          rcases List.mem_append.1 hx with hx | hx
          . exact HK.out x hx
          . simp at hx; rw [hx]; exact hd
        have hne : ((d.size : Int) != 256) = false := by simp; omega
        clear hd
        go_wp2
        go_roundw
        case rel => exact ⟨k + 1, by omega, by go_num, HK2, HST.out _ HOK.out, HB.out.setCell hg1 _⟩
        case measure => simp [intOf]; omega
      . have HNO : Hid (¬ ∀ d ∈ D.take n, d.size = 256) := fun hh => hd (hh _ HMEM.out)
        have hne : ((d.size : Int) != 256) = true := by simp; omega
        clear hd
        go_wp2
        go_ret3
        exact HF.out HNO.out _ (HB.out.setCell hg1 _)
    . have hkn : k = n := by omega
      subst hkn
      obtain ⟨T2, hF⟩ := F1.out wr
      have HF1 := Lib.hid hF; clear hF F1
      have hc0' := (HB.out.cell (p := ⟨b, off, none⟩) hb).trans hc0
      go_wp2_with fail
      refine HF1.out.mono ?_
      rintro e w2 ⟨rfl, hb2⟩
      have HB2 := Lib.hid (HB.out.trans (hb2.mono HB.out.size))
      have HO2 : Hid (OwnW w.heap.size w2 (.slice (some ⟨g, 0, none⟩) k c2) (bl.zip (D.take k))) := by
        show OwnW _ _ _ _
        rw [<- HFA.out]; exact HOK.out.below hb2
      clear hb2 HF1 HOK HB hc0'
      go_wp2_with fail
      refine (CS.out _ HB2.out).mono ?_
      rintro e w3 ⟨rfl, hb3⟩
      have HB3 := Lib.hid (HB2.out.trans (hb3.mono HB2.out.size))
      have HO3 := Lib.hid (HO2.out.below hb3)
      clear hb3 CS HO2
      by_cases ht : told = sm
      . have HT : Hid (sumB s D = true) := by show _ = _; rw [HSB.out]; simpa using ht
        have hne : ((told : Int) != (sm : Int)) = false := by simp; omega
        clear ht
        go_wp2
        go_ret3
        exact HO.out HK.out HT.out _ _ HO3.out HB3.out
      . have HT : Hid (sumB s D = false) := by show _ = _; rw [HSB.out]; simpa using ht
        have hne : ((told : Int) != (sm : Int)) = true := by simp; omega
        clear ht
        go_wp2
        go_ret3
        exact HS.out HK.out HT.out _ HB3.out

theorem unpack_any (L : List ByteArray) (v : Value) (w : World) (hl : L.length <= 1000) (hs : ∀ d ∈ L, d.size <= maxLen) (h : SlS w v L) :
    Calls Tryz.prog 206 #[v] w fun e w' => ∃ u, e = .returned (.tuple #[.int .u64 (((unp L).1 : Nat) : Int), u, .int .i64 (((unp L).2.2 : Nat) : Int)]) /\ OwnW w.heap.size w' u (unp L).2.1 /\ Below w.heap.size w w' := by
  cases L with
  | nil =>
    obtain ⟨ao, c, rfl, _⟩ := h
    exact (unpack_none ao c w).mono fun e w' ⟨he, hb⟩ => ⟨_, he, OwnW.nil _ _, hb⟩
  | cons s D =>
    obtain ⟨b, off, c, rfl, hcap, hb, hc⟩ := h.here (by simp)
    obtain ⟨c', rfl⟩ : ∃ c', c = c' + 1 := ⟨c - 1, by simp at hcap; omega⟩
    have hc0 := hc 0 (by simp)
    simp only [Nat.add_zero, List.getElem_cons_zero] at hc0
    have hl' : D.length <= 1000 := by simp at hl; omega
    rw [unp_cons]
    cases hh : headB s.data.toList with
    | false =>
      have hf : ¬ formB s D = true := fun hf => by rw [((formB_iff s D).1 hf).1] at hh; cases hh
      rw [if_neg hf]
      exact (unpack_nohead s D.length b off (c' + 1) w hh hl' hc0).mono fun e w' ⟨he, hb⟩ => ⟨_, he, OwnW.nil _ _, hb⟩
    | true =>
      by_cases hn : nmAt s.data.toList 12 <= D.length
      . refine unpack_head s D b off c' w _ hh hl' hn (by simp at hcap; omega) hb (fun d hd => hs d (List.mem_cons_of_mem _ hd)) hc ?_ ?_ ?_
        . intro hno w' hb
          have hf : ¬ formB s D = true := fun hf => hno ((formB_iff s D).1 hf).2.2
          rw [if_neg hf]
          exact ⟨_, rfl, OwnW.nil _ _, hb⟩
        . intro hall hsm w' hb
          rw [if_pos ((formB_iff s D).2 ⟨hh, hn, hall⟩), if_neg (by rw [hsm]; decide)]
          exact ⟨_, rfl, OwnW.nil _ _, hb⟩
        . intro hall hsm v w' ho hb
          rw [if_pos ((formB_iff s D).2 ⟨hh, hn, hall⟩), if_pos hsm]
          exact ⟨_, rfl, ho, hb⟩
      . have hf : ¬ formB s D = true := fun hf => hn ((formB_iff s D).1 hf).2.1
        rw [if_neg hf]
        exact (unpack_few s D.length b off (c' + 1) w hh hl' (by omega) hc0).mono fun e w' ⟨he, hb⟩ => ⟨_, he, OwnW.nil _ _, hb⟩
end Go.Proofs.YthambopnmhkeeaaGreat.Fr

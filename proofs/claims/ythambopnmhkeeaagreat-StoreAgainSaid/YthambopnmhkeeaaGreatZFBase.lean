/- Slices of texts and of writes in memory, as what is there to be read; rows of one's own; an append, and where the row lies behind it: nothing of the program is walked here. -/
import Derived.Test.YthambopnmhkeeaaGreatZWFix
import Derived.OneCell
import Derived.Test.YthambopnmhkeeaaGreatZNewD
import Derived.Test.YthambopnmhkeeaaGreatZShelf
import Derived.Deep.RegionWith
import Derived.WalkMore
import Derived.Deep.RegionLaw
import Derived.Test.YthambopnmhkeeaaGreatZCalls2

namespace Go.Proofs.YthambopnmhkeeaaGreat.Fr
open Go.RowKit
def flatI : List (Int × ByteArray) -> List Value
 | [] => []
 | x :: r => .int .i64 x.1 :: .string x.2 :: flatI r
theorem flatI_length (l : List (Int × ByteArray)) : (flatI l).length = l.length * 2 := by
 induction l with
 | nil => rfl
 | cons x r ih => simp [flatI, ih]; omega
theorem flatI_append (l m : List (Int × ByteArray)) : flatI (l ++ m) = flatI l ++ flatI m := by
 induction l with
 | nil => rfl
 | cons x r ih => simp [flatI, ih]
theorem flatI_fst (l : List (Int × ByteArray)) (i : Nat) (h : i < l.length) : (flatI l)[i * 2]? = some (.int .i64 (l[i]).1) := by
 induction l generalizing i with
 | nil => cases h
 | cons x r ih =>
  cases i with
  | zero => rfl
  | succ j =>
   have e : (j + 1) * 2 = j * 2 + 1 + 1 := by omega
   rw [e]; simpa [flatI] using ih j (by simpa using h)
theorem flatI_snd (l : List (Int × ByteArray)) (i : Nat) (h : i < l.length) : (flatI l)[i * 2 + 1]? = some (.string (l[i]).2) := by
 induction l generalizing i with
 | nil => cases h
 | cons x r ih =>
  cases i with
  | zero => rfl
  | succ j =>
   have e : (j + 1) * 2 + 1 = j * 2 + 1 + 1 + 1 := by omega
   rw [e]; simpa [flatI] using ih j (by simpa using h)
theorem flatI_one (l : List (Int × ByteArray)) : ∀ u ∈ flatI l, u.oneCell' = true := by
 induction l with
 | nil => intro u h; cases h
 | cons x r ih =>
  intro u h
  simp only [flatI, List.mem_cons] at h
  rcases h with rfl | rfl | h
  ·rfl
  ·rfl
  ·exact ih u h
theorem flatI_set_snd (l : List (Int × ByteArray)) (i : Nat) (h : i < l.length) (s : ByteArray) : (flatI l).set (i * 2 + 1) (.string s) = flatI (l.set i (l[i].1, s)) := by
 induction l generalizing i with
 | nil => cases h
 | cons x r ih =>
  cases i with
  | zero => rfl
  | succ j =>
   have e : (j + 1) * 2 + 1 = j * 2 + 1 + 1 + 1 := by omega
   rw [e]
   have := ih j (by simpa using h)
   simp only [flatI, List.set_cons_succ, List.getElem_cons_succ]
   rw [this]
theorem add_at (b off j : Nat) : (⟨b, off, none⟩ : Addr).add j = ⟨b, off + j, none⟩ := by unfold Addr.add; split <;> simp_all
def StrsAt (w : World) (b off : Nat) (L : List ByteArray) : Prop := ∀ j (h : j < L.length), w.cell? ⟨b, off + j, none⟩ = some (.string L[j])
def WritesAt (w : World) (b off : Nat) (L : List (Int × ByteArray)) : Prop := ∀ j (h : j < L.length), w.cell? ⟨b, off + j * 2, none⟩ = some (.int .i64 L[j].1) /\ w.cell? ⟨b, off + j * 2 + 1, none⟩ = some (.string L[j].2)
def SlS (w : World) (v : Value) (L : List ByteArray) : Prop := ∃ ao c, v = .slice ao L.length c /\ L.length <= c /\ (L = [] \/ ∃ b off, ao = some ⟨b, off, none⟩ /\ b < w.heap.size /\ StrsAt w b off L)
def SlW (w : World) (v : Value) (L : List (Int × ByteArray)) : Prop := ∃ ao c, v = .slice ao L.length c /\ L.length <= c /\ (L = [] \/ ∃ b off, ao = some ⟨b, off, none⟩ /\ b < w.heap.size /\ WritesAt w b off L)
theorem SlS.here {w : World} {v : Value} {L : List ByteArray} (h : SlS w v L) (h0 : 0 < L.length) : ∃ b off c, v = .slice (some ⟨b, off, none⟩) L.length c /\ L.length <= c /\ b < w.heap.size /\ StrsAt w b off L := by
 obtain ⟨ao, c, hv, hc, h⟩ := h
 rcases h with h | ⟨b, off, rfl, hb, h⟩
 ·subst h; simp at h0
 ·exact ⟨b, off, c, hv, hc, hb, h⟩
theorem SlW.here {w : World} {v : Value} {L : List (Int × ByteArray)} (h : SlW w v L) (h0 : 0 < L.length) : ∃ b off c, v = .slice (some ⟨b, off, none⟩) L.length c /\ L.length <= c /\ b < w.heap.size /\ WritesAt w b off L := by
 obtain ⟨ao, c, hv, hc, h⟩ := h
 rcases h with h | ⟨b, off, rfl, hb, h⟩
 ·subst h; simp at h0
 ·exact ⟨b, off, c, hv, hc, hb, h⟩
theorem StrsAt.below {w w' : World} {b off : Nat} {L : List ByteArray} {B : Nat} (h : StrsAt w b off L) (hb : Below B w w') (hB : b < B) : StrsAt w' b off L :=
 fun j hj => (hb.cell (p := ⟨b, off + j, none⟩) hB).trans (h j hj)
theorem WritesAt.below {w w' : World} {b off : Nat} {L : List (Int × ByteArray)} {B : Nat} (h : WritesAt w b off L) (hb : Below B w w') (hB : b < B) : WritesAt w' b off L :=
 fun j hj => ⟨(hb.cell (p := ⟨b, off + j * 2, none⟩) hB).trans (h j hj).1, (hb.cell (p := ⟨b, off + j * 2 + 1, none⟩) hB).trans (h j hj).2⟩
theorem SlS.below {w w' : World} {v : Value} {L : List ByteArray} (h : SlS w v L) (hb : Below w.heap.size w w') : SlS w' v L := by
 obtain ⟨ao, c, hv, hc, h⟩ := h
 refine ⟨ao, c, hv, hc, ?_⟩
 rcases h with h | ⟨b, off, e, hlt, h⟩
 ·exact .inl h
 ·exact .inr ⟨b, off, e, Nat.lt_of_lt_of_le hlt hb.size, h.below hb hlt⟩
theorem SlW.below {w w' : World} {v : Value} {L : List (Int × ByteArray)} (h : SlW w v L) (hb : Below w.heap.size w w') : SlW w' v L := by
 obtain ⟨ao, c, hv, hc, h⟩ := h
 refine ⟨ao, c, hv, hc, ?_⟩
 rcases h with h | ⟨b, off, e, hlt, h⟩
 ·exact .inl h
 ·exact .inr ⟨b, off, e, Nat.lt_of_lt_of_le hlt hb.size, h.below hb hlt⟩
def OwnS (B : Nat) (w : World) (v : Value) (L : List ByteArray) : Prop := w.ownsRow B 9 1 v L.length (L.map Value.string)
def OwnW (B : Nat) (w : World) (v : Value) (L : List (Int × ByteArray)) : Prop := w.ownsRow B 63 2 v L.length (flatI L)
theorem own_below {B : Nat} {e : TypeId} {k : Nat} {v : Value} {n : Nat} {xs : List Value} {w w' : World} (h : w.ownsRow B e k v n xs) (hb : Below w.heap.size w w') : w'.ownsRow B e k v n xs := by
 refine ⟨h.1, ?_⟩
 rcases h.2 with hn | ⟨g, cap, cur, rfl, hbg, hg, rest⟩
 ·exact .inl hn
 ·exact .inr ⟨g, cap, cur, rfl, hbg, by rw [hb.block g (Array.getElem?_eq_some_iff.1 hg).1]; exact hg, rest⟩
theorem own_mono {w : World} {base base' : Nat} {e : TypeId} {size : Nat} {v : Value} {n : Nat} {xs : List Value} (h : w.ownsRow base e size v n xs) (hb : base' <= base) : w.ownsRow base' e size v n xs := by
 refine ⟨h.1, ?_⟩
 rcases h.2 with hn | ⟨g, cap, cur, rfl, hbg, rest⟩
 ·exact .inl hn
 ·exact .inr ⟨g, cap, cur, rfl, Nat.le_trans hb hbg, rest⟩
theorem OwnS.below {B : Nat} {w w' : World} {v : Value} {L : List ByteArray} (h : OwnS B w v L) (hb : Below w.heap.size w w') : OwnS B w' v L := own_below h hb
theorem OwnW.below {B : Nat} {w w' : World} {v : Value} {L : List (Int × ByteArray)} (h : OwnW B w v L) (hb : Below w.heap.size w w') : OwnW B w' v L := own_below h hb
theorem OwnS.mono {B B' : Nat} {w : World} {v : Value} {L : List ByteArray} (h : OwnS B w v L) (hb : B' <= B) : OwnS B' w v L := own_mono h hb
theorem OwnW.mono {B B' : Nat} {w : World} {v : Value} {L : List (Int × ByteArray)} (h : OwnW B w v L) (hb : B' <= B) : OwnW B' w v L := own_mono h hb
theorem OwnS.nil (B : Nat) (w : World) : OwnS B w (.slice none 0 0) [] := World.ownsRow_nil _ _ _ _
theorem OwnW.nil (B : Nat) (w : World) : OwnW B w (.slice none 0 0) [] := World.ownsRow_nil _ _ _ _
theorem OwnS.here {B : Nat} {w : World} {v : Value} {L : List ByteArray} (h : OwnS B w v L) (h0 : 0 < L.length) : ∃ g c, v = .slice (some ⟨g, 0, none⟩) L.length c /\ L.length <= c /\ B <= g /\ g < w.heap.size /\ StrsAt w g 0 L /\ ∀ j, w.frozen? ⟨g, j, none⟩ = false := by
 have hO := h
 rcases h.2 with ⟨_, hn⟩ | ⟨g, cap, cur, rfl, hbg, hg, hc, _⟩
 ·omega
 ·refine ⟨g, cap, rfl, hc, hbg, (Array.getElem?_eq_some_iff.1 hg).1, fun j hj => ?_, fun j => World.ownsRow.frozenAt hO j⟩
  rw [Nat.zero_add, World.ownsRow.cellAt hO j (by omega)]
  simp [hj]
theorem OwnW.here {B : Nat} {w : World} {v : Value} {L : List (Int × ByteArray)} (h : OwnW B w v L) (h0 : 0 < L.length) : ∃ g c, v = .slice (some ⟨g, 0, none⟩) L.length c /\ L.length <= c /\ B <= g /\ g < w.heap.size /\ WritesAt w g 0 L /\ ∀ j, w.frozen? ⟨g, j, none⟩ = false := by
 have hO := h
 rcases h.2 with ⟨_, hn⟩ | ⟨g, cap, cur, rfl, hbg, hg, hc, _⟩
 ·omega
 ·refine ⟨g, cap, rfl, hc, hbg, (Array.getElem?_eq_some_iff.1 hg).1, fun j hj => ?_, fun j => World.ownsRow.frozenAt hO j⟩
  rw [Nat.zero_add, World.ownsRow.cellAt hO (j * 2) (by omega), World.ownsRow.cellAt hO (j * 2 + 1) (by omega)]
  exact ⟨flatI_fst L j hj, flatI_snd L j hj⟩
theorem OwnS.sl {B : Nat} {w : World} {v : Value} {L : List ByteArray} (h : OwnS B w v L) : SlS w v L := by
 by_cases h0 : 0 < L.length
 ·obtain ⟨g, c, hv, hc, _, hg, hs, _⟩ := h.here h0
  exact ⟨_, c, hv, hc, .inr ⟨g, 0, rfl, hg, hs⟩⟩
 ·have e : L = [] := List.eq_nil_of_length_eq_zero (by omega)
  subst e
  rcases h.2 with ⟨hv, _⟩ | ⟨g, cap, cur, hv, _⟩
  ·exact ⟨_, 0, hv, Nat.le_refl _, .inl rfl⟩
  ·exact ⟨_, cap, hv, Nat.zero_le _, .inl rfl⟩
theorem OwnW.sl {B : Nat} {w : World} {v : Value} {L : List (Int × ByteArray)} (h : OwnW B w v L) : SlW w v L := by
 by_cases h0 : 0 < L.length
 ·obtain ⟨g, c, hv, hc, _, hg, hs, _⟩ := h.here h0
  exact ⟨_, c, hv, hc, .inr ⟨g, 0, rfl, hg, hs⟩⟩
 ·have e : L = [] := List.eq_nil_of_length_eq_zero (by omega)
  subst e
  rcases h.2 with ⟨hv, _⟩ | ⟨g, cap, cur, hv, _⟩
  ·exact ⟨_, 0, hv, Nat.le_refl _, .inl rfl⟩
  ·exact ⟨_, cap, hv, Nat.zero_le _, .inl rfl⟩
theorem OwnS.store {B : Nat} {w : World} {g c : Nat} {L : List ByteArray} (h : OwnS B w (.slice (some ⟨g, 0, none⟩) L.length c) L) (j : Nat) (s : ByteArray) : OwnS B (w.setCell ⟨g, j, none⟩ (.string s)) (.slice (some ⟨g, 0, none⟩) L.length c) (L.set j s) := by
 have := (World.ownsRow.stored h j (.string s)).1
 unfold OwnS
 rw [List.length_set, List.map_set]
 exact this
theorem OwnW.storeD {B : Nat} {w : World} {g c : Nat} {L : List (Int × ByteArray)} (h : OwnW B w (.slice (some ⟨g, 0, none⟩) L.length c) L) (j : Nat) (hj : j < L.length) (s : ByteArray) : OwnW B (w.setCell ⟨g, j * 2 + 1, none⟩ (.string s)) (.slice (some ⟨g, 0, none⟩) L.length c) (L.set j (L[j].1, s)) := by
 have := (World.ownsRow.stored h (j * 2 + 1) (.string s)).1
 unfold OwnW
 rw [List.length_set, <- flatI_set_snd L j hj]
 exact this
theorem _root_.Go.Proofs.Tryz.infoI : (Tryz.prog.info? 3).map (fun i => (i.zero, i.size, i.bytes)) = some (some (.int .i64 0), 1, 8) := by kernel_rfl
theorem _root_.Go.Proofs.Tryz.infoB : (Tryz.prog.info? 5).map (fun i => (i.zero, i.size, i.bytes)) = some (some (.int .u8 0), 1, 1) := by kernel_rfl
end Go.Proofs.YthambopnmhkeeaaGreat.Fr
/- What check answers: why writes cannot be packed. -/
set_option maxRecDepth 100000
namespace Go.Proofs.YthambopnmhkeeaaGreat.Fr
open Go.RowKit
set_option maxHeartbeats 1000000 in
theorem check_many (ao : Option Addr) (n c : Nat) (w : World) (h : n = 0 \/ 48 < n) (hm : n <= 1000) :
  Calls Tryz.prog 176 #[.slice ao n c] w fun e w' => e = .returned (.int .i64 6) /\ Below w.heap.size w w' := by
 rcases h with rfl | h
 ·go_enter Tryz.func176, Tryz.ntmps176
  go_wp2
  go_ret
  exact ⟨rfl, Below.refl _ _⟩
 ·have h0 : ((n : Int) == 0) = false := beq_eq_false_iff_ne.2 (by omega)
  have h1 : (48 : Int) < (n : Int) := by omega
  go_enter Tryz.func176, Tryz.ntmps176
  go_wp2
  go_ret
  exact ⟨rfl, Below.refl _ _⟩
set_option maxHeartbeats 1000000 in
theorem check_some (L : List (Int × ByteArray)) (b off c : Nat) (w : World) (h1 : 1 <= L.length) (h2 : L.length <= 48) (hs : ∀ x ∈ L, x.2.size <= maxLen) (hb : b < w.heap.size) (hc : WritesAt w b off L) :
  Calls Tryz.prog 176 #[.slice (some ⟨b, off, none⟩) L.length c] w fun e w' => e = .returned (.int .i64 ((chkL L : Nat) : Int)) /\ Below w.heap.size w w' := by
 have HC := Lib.hid hc; clear hc
 have HS := Lib.hid hs; clear hs
 obtain ⟨n, hn⟩ : ∃ n, L.length = n := ⟨_, rfl⟩
 rw [hn] at h1 h2 ⊢
 have HN := Lib.hid hn; clear hn
 have h0 : ((n : Int) == 0) = false := beq_eq_false_iff_ne.2 (by omega)
 have h3 : ¬ (48 : Int) < (n : Int) := by omega
 go_enter Tryz.func176, Tryz.ntmps176
 go_wp2
 go_loopw [15] (fun i wr => ∃ k : Nat, k <= n /\ i = .int .i64 k /\ Hid (chkL L = chkL (L.drop k)) /\ Hid (Below w.heap.size w wr)) (fun i _ => n - (intOf i).toNat)
 case atStart => exact ⟨0, Nat.zero_le _, rfl, rfl, Below.refl _ _⟩
 case round =>
  obtain ⟨k, hk, rfl, HK, HB⟩ := hrel
  have hbr := HB.out.size
  by_cases hlt : k < n
  ·have hkL : k < L.length := by rw [HN.out]; exact hlt
   obtain ⟨c0, c1⟩ := (HC.out.below HB.out hb) k hkL
   have hsz := HS.out L[k] (List.getElem_mem hkL)
   unfold maxLen at hsz
   by_cases hx : chk1 L[k] = 0
   ·obtain ⟨x0, x1, x2⟩ := (chk1_ok _).1 hx
    have HK2 : Hid (chkL L = chkL (L.drop (k + 1))) := by show _ = _; rw [HK.out, chkL_drop L k hkL hx]
    clear hx
    generalize L[k] = p at *
    obtain ⟨pb, pd⟩ := p
    simp only at c0 c1 x0 x1 x2 hsz
    have hne : ((pd.size : Int) != 256) = false := by simp; omega
    have hge : ¬ (4096 : Int) <= pb := by omega
    have hlt0 : ¬ pb < 0 := by omega
    clear x0 x1 x2
    go_wp2
    go_roundw
    case rel => exact ⟨k + 1, by omega, by go_num, HK2, (HB.out.alloc hbr _)⟩
    case measure => simp [intOf]; omega
   ·have HE := Lib.hid (show chkL L = chk1 L[k] by rw [HK.out, chkL_at L k hkL hx])
    generalize L[k] = p at *
    obtain ⟨pb, pd⟩ := p
    simp only at c0 c1 hsz
    unfold chk1 at hx HE
    simp only at hx HE
    by_cases hr : pb < 0 \/ 4096 <= pb
    ·rw [if_pos hr] at HE
     clear hx
     rcases hr with hr | hr
     ·go_wp2
      go_ret
      exact ⟨by rw [HE.out]; rfl, HB.out.alloc hbr _⟩
     ·have hlt0 : ¬ pb < 0 := by omega
      go_wp2
      go_ret
      exact ⟨by rw [HE.out]; rfl, HB.out.alloc hbr _⟩
    ·rw [if_neg hr] at hx HE
     have hge : ¬ (4096 : Int) <= pb := by omega
     have hlt0 : ¬ pb < 0 := by omega
     clear hr
     by_cases hz : pd.size ≠ 256
     ·rw [if_pos hz] at HE
      clear hx
      have hne : ((pd.size : Int) != 256) = true := by simp; omega
      clear hz
      go_wp2
      go_ret
      exact ⟨by rw [HE.out]; rfl, HB.out.alloc hbr _⟩
     ·rw [if_neg hz] at hx; exact absurd rfl hx
  ·have hkn : k = n := by omega
   subst hkn
   have HE : Hid (chkL L = 0) := by show _ = _; rw [HK.out, List.drop_of_length_le (by rw [HN.out]; exact Nat.le_refl _)]; rfl
   go_wp2
   go_ret
   exact ⟨by rw [HE.out]; rfl, HB.out⟩
theorem check_any (L : List (Int × ByteArray)) (v : Value) (w : World) (hl : L.length <= 1000) (hs : ∀ x ∈ L, x.2.size <= maxLen) (h : SlW w v L) :
  Calls Tryz.prog 176 #[v] w fun e w' => e = .returned (.int .i64 ((chk L : Nat) : Int)) /\ Below w.heap.size w w' := by
 unfold chk
 by_cases h0 : L.length = 0 \/ 48 < L.length
 ·rw [if_pos h0]
  obtain ⟨ao, c, rfl, _⟩ := h
  exact check_many ao _ c w h0 hl
 ·rw [if_neg h0]
  obtain ⟨b, off, c, rfl, _, hb, hc⟩ := h.here (by omega)
  exact check_some L b off c w (by omega) (by omega) hs hb hc
end Go.Proofs.YthambopnmhkeeaaGreat.Fr
/- What sum answers: the sum of a head's first 248 bytes and of all data. -/
set_option maxRecDepth 100000
namespace Go.Proofs.YthambopnmhkeeaaGreat.Fr
open Go.RowKit
theorem StrsAt.tail {w : World} {b off : Nat} {s : ByteArray} {D : List ByteArray} (h : StrsAt w b off (s :: D)) : StrsAt w b (off + 1) D := fun j hj => by
 have := h (j + 1) (by simpa using hj)
 rw [show off + 1 + j = off + (j + 1) by omega, this]; rfl
theorem joinB_cons (s : ByteArray) (D : List ByteArray) : joinB (s :: D) = s.data.toList ++ joinB D := by unfold joinB; rw [List.flatMap_cons]
set_option maxHeartbeats 1000000 in
theorem sum_any (s : ByteArray) (D : List ByteArray) (b off c : Nat) (w : World) (h1 : 1 <= D.length) (h2 : D.length <= 1000) (hc1 : D.length <= c) (hs : 248 <= s.size) (hD : ∀ d ∈ D, d.size <= maxLen) (hb : b < w.heap.size) (hc : StrsAt w b off (s :: D)) :
  Calls Tryz.prog 177 #[.slice (some ⟨b, off, none⟩) (D.length + 1) (c + 1)] w fun e w' => e = .returned (.int .u32 ((crcL (s.data.toList.take 248 ++ joinB D) : Nat) : Int)) /\ Below w.heap.size w w' := by
 obtain ⟨i0, hi, hz0, hz1, hz2⟩ := info_parts Tryz.infoS
 have HZ2 := Lib.hid hz2; clear hz2
 have hc0 := hc 0 (by simp)
 simp only [Nat.add_zero, List.getElem_cons_zero] at hc0
 have HT := Lib.hid hc.tail; clear hc
 have HD := Lib.hid hD; clear hD
 have hs' : (248 : Int) <= (s.size : Int) := by omega
 have HX : Hid (s.extract 0 248 = bs (s.data.toList.take 248)) := by
  show s.extract 0 248 = _
  have := bs_ext s.data.toList 0 248
  rw [bs_data] at this
  rw [this, List.drop_zero]
 obtain ⟨n, hn⟩ : ∃ n, D.length = n := ⟨_, rfl⟩
 rw [hn] at h1 h2 hc1 ⊢
 have HN := Lib.hid hn; clear hn
 have hcc : (1 : Int) < (c : Int) + 1 := by omega
 obtain ⟨x, hx⟩ : ∃ x, s.extract 0 248 = x := ⟨_, rfl⟩
 go_enter Tryz.func177, Tryz.ntmps177
 have HXX := Lib.hid hx
 go_wp2_with (at_builtin; refine wpList_append_own _ rfl _ _ 47 rfl w.heap.size 9 i0 _ 1 16 Tryz.underlying47 hi hz0 hz1 HZ2.out rfl (by decide) _ 1 [.string x] rfl (World.ownsRow_lit w #[.string x] 1 (Nat.le_refl _) (by unfold maxLen; omega) rfl) ⟨b, off + 1, none⟩ n c (D.map Value.string) rfl (by rw [List.length_map, HN.out, Nat.mul_one]) ?c1 ?c2 ?c3 ?c4 ?c5 ?_)
 case c1 =>
  intro j u hu
  rw [add_at]
  have hj : j < D.length := by
   have := (List.getElem?_eq_some_iff.1 hu).1
   simpa using this
  have h3 : u = .string D[j] := by rw [List.getElem?_map, List.getElem?_eq_getElem hj] at hu; simpa using hu.symm
  rw [h3, ((Below.refl w.heap.size w).alloc (Nat.le_refl _) (.cells #[.string x] 9)).cell (p := ⟨b, off + 1 + j, none⟩) hb]
  exact HT.out j hj
 case c2 =>
  intro u hu
  obtain ⟨d, _, rfl⟩ := List.mem_map.1 hu
  rfl
 case c3 => unfold maxLen; omega
 case c4 => omega
 case c5 => simp
 intro v1 w1 hown hgrow _
 have HO : Hid (OwnS w.heap.size w1 v1 (x :: D)) := by
  show w1.ownsRow _ _ _ _ _ _
  rw [List.length_cons, HN.out, Nat.add_comm]
  exact hown
 have HB : Hid (Below w.heap.size w w1) := ((Below.refl _ _).alloc (Nat.le_refl _) _).grown hgrow (by simp) (fun k hk => by simp [Value.ownBlock] at hk; omega)
 clear hown hgrow
 obtain ⟨g, c2, rfl, _, _, hg, hst, _⟩ := HO.out.here (by simp)
 have HST := Lib.hid hst; clear hst
 have HG := Lib.hid hg; clear hg HO
 have C := Lib.hid (crc_some (x :: D) g 0 c2 w1 (by rw [List.length_cons, HN.out]; unfold maxLen; omega) (fun t ht => by
   rcases List.mem_cons.1 ht with rfl | ht
   ·rw [<- HXX.out, HX.out, bs_len, List.length_take]; unfold maxLen; omega
   ·exact HD.out t ht) HST.out)
 rw [joinB_cons, <- HXX.out, HX.out, data_bs] at C
 clear hx
 go_wp2_with fail
 refine C.out.mono ?_
 rintro e w' ⟨rfl, rfl⟩
 go_wp2
 go_ret
 exact ⟨rfl, HB.out⟩
end Go.Proofs.YthambopnmhkeeaaGreat.Fr
/- What Pack answers: the frame, or why there is none. -/
set_option maxRecDepth 100000
namespace Go.Proofs.YthambopnmhkeeaaGreat.Fr
open Go.RowKit
theorem fixed_eq (x : Int) (v : Nat) (w : World) (h : x = (v : Int)) (hv : v < 4294967296) :
  Calls Tryz.prog 135 #[.int .u32 x] w fun e w' => e = .returned (.string (bs (fixL v))) /\ Below w.heap.size w w' := by
 rw [h]; exact fixed_any v w hv
theorem rfixed_eq (x : Int) (v : Nat) (w : World) (h : x = (v : Int)) (hv : v < 4294967296) :
  Calls Tryz.prog 143 #[.int .u32 x] w fun e w' => e = .returned (.string (bs (fixL v))) /\ Below w.heap.size w w' := by
 rw [h]; exact rfixed_any v w hv
theorem fixed_to (x : Int) (v : Nat) (t : ByteArray) (w : World) (h : x = (v : Int)) (hv : v < 4294967296) (ht : Hid (bs (fixL v) = t)) :
  Calls Tryz.prog 135 #[.int .u32 x] w fun e w' => e = .returned (.string t) /\ Below w.heap.size w w' := by
 rw [<- ht.out]; exact fixed_eq x v w h hv
theorem rfixed_to (x : Int) (v : Nat) (t : ByteArray) (w : World) (h : x = (v : Int)) (hv : v < 4294967296) (ht : Hid (bs (fixL v) = t)) :
  Calls Tryz.prog 143 #[.int .u32 x] w fun e w' => e = .returned (.string t) /\ Below w.heap.size w w' := by
 rw [<- ht.out]; exact rfixed_eq x v w h hv
theorem fix_name (v : Nat) : ∃ t, t.size <= 4 /\ Hid (bs (fixL v) = t) := ⟨_, Nat.le_refl _, rfl⟩
theorem repeat_zero (c : Nat) : Lib.repeatL [0] c = List.replicate c 0 := by
 induction c with
 | zero => rfl
 | succ c ih => rw [Lib.repeatL, ih, List.replicate_succ]; rfl
theorem noughts_any (x : Int) (c : Nat) (w : World) (h : x = (c : Int)) (h2 : 2 <= c) (hc : c <= 1000) :
  Calls Tryz.prog 66 #[.string ⟨#[0]⟩, .int .i64 x] w fun e w' => e = .returned (.string (bs (List.replicate c 0))) /\ Below w.heap.size w w' := by
 subst h
 refine (Tryz.strings_Repeat_main ⟨#[0]⟩ c w h2 (by omega) ?_ (by decide)).mono fun e w' ⟨he, hb⟩ => ⟨?_, hb⟩
 ·show 1 * c <= _; omega
 ·rw [he]; show Ending.returned (.string (bs (Lib.repeatL [0] c))) = _; rw [repeat_zero]
theorem map_snoc (X : ByteArray) (L : List (Int × ByteArray)) (k : Nat) (h : k < L.length) : X :: (L.take (k + 1)).map (·.2) = (X :: (L.take k).map (·.2)) ++ [L[k].2] := by
 rw [List.take_succ_eq_append_getElem h, List.map_append]; rfl
theorem one_cell {w : World} {t : TypeId} {s : ByteArray} {g : Nat} (hg : w.heap.size = g) : ∀ (j : Nat) (u : Value), [Value.string s][j]? = some u -> (w.alloc (.cells #[.string s] t)).cell? ((⟨g, 0, none⟩ : Addr).add j) = some u := by
 subst hg
 intro j u hu
 cases j with
 | zero => rw [add_at, cell_at (heap_alloc_new ..)]; exact hu
 | succ j => simp at hu
theorem one_one {s : ByteArray} : ∀ u ∈ [Value.string s], u.oneCell' = true := by intro u hu; simp at hu; subst hu; rfl
theorem own_push {B : Nat} {w1 : World} {v1 : Value} {M : List ByteArray} {s : ByteArray} (hown : w1.ownsRow B 9 1 v1 (M.length + 1) (M.map Value.string ++ [.string s])) : OwnS B w1 v1 (M ++ [s]) := by
 unfold OwnS
 rw [List.length_append, List.map_append]
 exact hown
theorem below_predrew {B : Nat} {w w1 : World} (h : Below B w.drew w1) : Below B w w1 := (Below.refl B w).drew.trans h
theorem pre_alloc {w w2 : World} {o : Obj} (h : Below (w.alloc o).heap.size (w.alloc o) w2) : Below w.heap.size w w2 :=
 ((Below.refl _ _).alloc (Nat.le_refl _) o).trans (h.mono (by simp))
set_option maxHeartbeats 1000000 in
theorem pack_no (seq : Nat) (L : List (Int × ByteArray)) (v : Value) (w : World) (hl : L.length <= 1000) (hs : ∀ x ∈ L, x.2.size <= maxLen) (h : SlW w v L) (hc : chk L ≠ 0) :
  Calls Tryz.prog 129 #[.int .u64 (seq : Int), v] w fun e w' => e = .returned (.tuple #[.slice none 0 0, .int .i64 ((chk L : Nat) : Int)]) /\ Below w.heap.size w w' := by
 have C := Lib.hid (check_any L v w hl hs h)
 obtain ⟨ao, c, rfl, _⟩ := h
 obtain ⟨x, hx⟩ : ∃ x, chk L = x := ⟨_, rfl⟩
 rw [hx] at C hc ⊢
 have hne : ((x : Int) != 0) = true := by simp; omega
 clear hx hc hs
 go_enter Tryz.func129, Tryz.ntmps129
 go_wp2_with fail
 refine C.out.mono ?_
 rintro e w1 ⟨rfl, hb1⟩
 have HB := Lib.hid hb1; clear hb1 C
 go_wp2
 go_ret2
 exact ⟨rfl, HB.out⟩
set_option maxHeartbeats 2000000 in
theorem pack_yes (seq : Nat) (L : List (Int × ByteArray)) (v : Value) (w : World) (hseq : seq < 18446744073709551616) (h : SlW w v L) (hc : chk L = 0) :
  Calls Tryz.prog 129 #[.int .u64 (seq : Int), v] w fun e w' => ∃ u, e = .returned (.tuple #[u, .int .i64 0]) /\ OwnS w.heap.size w' u (packL seq L) /\ Below w.heap.size w w' := by
 obtain ⟨i0, hi, hz0, hz1, hz2⟩ := info_parts Tryz.infoS
 have HZ2 := Lib.hid hz2; clear hz2
 obtain ⟨h1, h2, hw⟩ := (chk_ok L).1 hc
 have C := Lib.hid (check_any L v w (by omega) (fun x hx => by rw [(hw x hx).2.2]; unfold maxLen; omega) h)
 rw [hc] at C
 obtain ⟨b, off, c, rfl, hcap, hb, hcs⟩ := h.here (by omega)
 have HC := Lib.hid hcs; clear hcs h hc
 have HW := Lib.hid hw; clear hw
 obtain ⟨n, hn⟩ : ∃ n, L.length = n := ⟨_, rfl⟩
 rw [hn] at h1 h2 C hcap ⊢
 have HN := Lib.hid hn; clear hn
 go_enter Tryz.func129, Tryz.ntmps129
 go_wp2_with fail
 refine C.out.mono ?_
 rintro e w1 ⟨rfl, hb1⟩
 have HB := Lib.hid hb1; clear hb1 C
 obtain ⟨t1, z1, H1⟩ := fix_name (seq % 4294967296)
 obtain ⟨t2, z2, H2⟩ := fix_name (seq / 4294967296)
 obtain ⟨t3, z3, H3⟩ := fix_name n
 go_wp2_with fail
 refine (fixed_to _ _ _ _ (by omega) (by omega) H1).mono ?_
 rintro e w2 ⟨rfl, hb2⟩
 have HB2 := Lib.hid hb2; clear hb2
 go_wp2_with fail
 refine (fixed_to _ _ _ _ (by omega) (by omega) H2).mono ?_
 rintro e w3 ⟨rfl, hb3⟩
 have HB3 := Lib.hid hb3; clear hb3
 go_wp2_with fail
 refine (fixed_to _ _ _ _ (by omega) (by omega) H3).mono ?_
 rintro e w4 ⟨rfl, hb4⟩
 have HB4 : Hid (Below w.heap.size w w4) := by
  have s1 := HB.out.size; have s2 := HB2.out.size; have s3 := HB3.out.size
  exact HB.out.trans ((HB2.out.mono s1).trans ((HB3.out.mono (by omega)).trans (hb4.mono (by omega))))
 clear hb4 HB HB2 HB3
 have HS : Hid (⟨#[67, 68, 88, 84]⟩ ++ t1 ++ t2 ++ t3 = bs (begL seq n [])) := by
  show ((bs cdxt ++ t1) ++ t2) ++ t3 = _
  rw [<- H1.out, <- H2.out, <- H3.out, bs_append, bs_append, bs_append]
  unfold begL numsL
  simp only [List.append_assoc, List.flatMap_nil, List.append_nil]
 go_wp2_with fail
 go_loopw [7, 34] (fun t i wr => ∃ k T, k <= n /\ i = .int .i64 ((k : Nat) : Int) /\ t = .string T /\ T.size <= 16 + 4 * k /\ 16 + 4 * k <= T.size /\ Hid (T = bs (begL seq n (L.take k))) /\ Hid (Below w.heap.size w wr)) (fun _ i _ => n - (intOf i).toNat)
 case atStart =>
  have e : (⟨#[67, 68, 88, 84]⟩ ++ t1 ++ t2 ++ t3 : ByteArray).size = 16 := by rw [HS.out, bs_len, begL_len]; rfl
  exact ⟨0, _, Nat.zero_le _, rfl, rfl, by omega, by omega, HS, HB4⟩
 case round =>
  clear HS HB4
  obtain ⟨k, T, hk, rfl, rfl, hT1, hT2, HT, HB⟩ := hrel
  have hbr := HB.out.size
  by_cases hlt : k < n
  ·have hkL : k < L.length := by rw [HN.out]; exact hlt
   obtain ⟨c0, c1⟩ := (HC.out.below HB.out hb) k hkL
   obtain ⟨x0, x1, _⟩ := HW.out L[k] (List.getElem_mem hkL)
   obtain ⟨t, z, HF⟩ := fix_name L[k].1.toNat
   have HT2 : Hid (T ++ t = bs (begL seq n (L.take (k + 1)))) := by
    show T ++ t = _
    rw [HT.out, <- HF.out, bs_append, begL_snoc seq n L k hkL]
   have z4 : 4 <= t.size := by rw [<- HF.out]; exact Nat.le_refl _
   generalize L[k] = p at *
   obtain ⟨pb, pd⟩ := p
   simp only at c0 c1 x0 x1 HF
   go_wp2_with fail
   refine (fixed_to _ _ _ _ (by omega) (by omega) HF).mono ?_
   rintro e w5 ⟨rfl, hb5⟩
   have HB5 : Hid (Below w.heap.size w w5) := HB.out.trans ((pre_alloc hb5).mono hbr)
   clear hb5
   go_wp2
   go_roundw
   case rel => exact ⟨k + 1, _, by omega, by go_num, rfl, by simp; omega, by simp; omega, HT2, HB5⟩
   case measure => simp [intOf]; omega
  ·have hkn : k = n := by omega
   subst hkn
   have HX : Hid (T ++ bs (List.replicate (232 - 4 * k) 0) = bs (headL seq L)) := by
    show _ = _
    rw [HT.out, bs_append, List.take_of_length_le (by rw [HN.out]; exact Nat.le_refl _)]
    unfold headL
    rw [HN.out, show 248 - (16 + 4 * k) = 232 - 4 * k by omega]
   have hzs : (bs (List.replicate (232 - 4 * k) 0)).size <= 232 := by rw [bs_len, List.length_replicate]; omega
   obtain ⟨Z, hZ⟩ : ∃ Z, bs (List.replicate (232 - 4 * k) 0) = Z := ⟨_, rfl⟩
   have CN := Lib.hid (noughts_any (248 - (T.size : Int)) (232 - 4 * k) wr (by omega) (by omega) (by omega))
   rw [hZ] at HX hzs CN
   clear hZ HT
   go_wp2_with fail
   refine CN.out.mono ?_
   rintro e w5 ⟨rfl, hb5⟩
   have HB5 : Hid (Below w.heap.size w w5) := HB.out.trans (hb5.mono hbr)
   clear hb5 CN HB hbr
   have hbr := HB5.out.size
   obtain ⟨X, hX⟩ : ∃ X, T ++ Z = X := ⟨_, rfl⟩
   rw [hX] at HX
   go_wp2_with fail
   have HO : Hid (OwnS w.heap.size (w5.alloc (.cells #[.string X] 9)) (.slice (some ⟨w5.heap.size, 0, none⟩) 1 1) (X :: (L.take 0).map (·.2))) :=
    World.ownsRow_lit w5 #[.string X] 1 hbr (by unfold maxLen; omega) rfl
   have HBa : Hid (Below w.heap.size w (w5.alloc (.cells #[.string X] 9))) := HB5.out.alloc hbr _
   clear HB5 hbr
   generalize w5.alloc (.cells #[.string X] 9) = w6 at *
   generalize (.slice (some ⟨w5.heap.size, 0, none⟩) 1 1 : Value) = v6 at *
   go_loopw [10, 54] (fun fv i wr => ∃ j : Nat, j <= k /\ i = .int .i64 j /\ Hid (OwnS w.heap.size wr fv (X :: (L.take j).map (·.2))) /\ Hid (Below w.heap.size w wr)) (fun _ i _ => k - (intOf i).toNat)
   case atStart => exact ⟨0, Nat.zero_le _, rfl, HO, HBa⟩
   case round =>
    clear HO HBa
    obtain ⟨j, hj, rfl, HO, HB⟩ := hrel
    have hbr := HB.out.size
    by_cases hlt : j < k
    ·have hkL : j < L.length := by rw [HN.out]; exact hlt
     obtain ⟨c0, c1⟩ := (HC.out.below HB.out hb) j hkL
     have HM := Lib.hid (map_snoc X L j hkL)
     have hlen : (X :: (L.take j).map (·.2)).length <= 49 := by simp; omega
     obtain ⟨M, hM⟩ : ∃ M, X :: (L.take j).map (·.2) = M := ⟨_, rfl⟩
     rw [hM] at HO HM hlen
     clear hM
     generalize L[j] = p at *
     obtain ⟨pb, pd⟩ := p
     simp only at c0 c1 HM
     go_wp2_with (at_builtin; go_loud (refine wpList_append_own _ rfl _ _ 47 rfl w.heap.size 9 i0 _ 1 16 Tryz.underlying47 hi hz0 hz1 HZ2.out rfl (by decide) _ _ _ rfl ((HO.out.alloc _).alloc _) _ 1 1 [.string pd] rfl rfl (one_cell (by simp)) one_one ?c3 ?c4 ?c5 ?_))
     case c3 => unfold maxLen; omega
     case c4 => omega
     case c5 => simp; omega
     intro v1 w1 hown hgrow _
     have HO1 : Hid (OwnS w.heap.size w1 v1 (X :: (L.take (j + 1)).map (·.2))) := by
      show OwnS _ _ _ _
      rw [HM.out]; exact own_push hown
     have HB1 : Hid (Below w.heap.size w w1) := ((HB.out.alloc hbr _).alloc (by simp; omega) _).grown hgrow (by simp; omega) (fun q hq => (HO.out.lt q hq).1)
     clear hown hgrow
     go_wp2
     go_roundw
     case rel => exact ⟨j + 1, by omega, by go_num, HO1, HB1⟩
     case measure => simp [intOf]; omega
    ·have hjk : j = k := by omega
     subst hjk
     have HO2 : Hid (OwnS w.heap.size wr u10 (X :: L.map (·.2))) := by
      have := HO.out
      rw [List.take_of_length_le (by rw [HN.out]; exact Nat.le_refl _)] at this
      exact this
     clear HO
     obtain ⟨g, fc, hv, hfc, hg1, hg2, hst, hfr⟩ := HO2.out.here (by simp)
     have hX0 := hst 0 (by simp)
     have hf0 := hfr 0
     simp only [Nat.add_zero, List.getElem_cons_zero] at hX0
     have hbs := HB.out.size
     have HDL : Hid ((L.map (·.2)).length = j) := by show _ = _; rw [List.length_map]; exact HN.out
     rw [List.length_cons, HDL.out] at hfc hv
     subst hv
     obtain ⟨fc', rfl⟩ : ∃ f, fc = f + 1 := ⟨fc - 1, by omega⟩
     have CS : Hid (∀ W, Below wr.heap.size wr W -> Calls Tryz.prog 177 #[.slice (some ⟨g, 0, none⟩) (j + 1) (fc' + 1)] W fun e w' => e = .returned (.int .u32 ((crcL (headL seq L ++ joinB (L.map (·.2))) : Nat) : Int)) /\ Below W.heap.size W w') := by
      intro W hW
      have := sum_any X (L.map (·.2)) g 0 fc' W (by rw [HDL.out]; omega) (by rw [HDL.out]; omega) (by rw [HDL.out]; omega) (by rw [HX.out, bs_len, headL_len seq L (by rw [HN.out]; omega)]; exact Nat.le_refl _) (fun d hd => by
       obtain ⟨x, hx, rfl⟩ := List.mem_map.1 hd
       rw [(HW.out x hx).2.2]; unfold maxLen; omega) (Nat.lt_of_lt_of_le hg2 hW.size) (hst.below hW hg2)
      rw [HDL.out, HX.out, data_bs, List.take_of_length_le (by rw [headL_len seq L (by rw [HN.out]; omega)]; exact Nat.le_refl _)] at this
      exact this
     obtain ⟨t4, z4, H4⟩ := fix_name (crcL (headL seq L ++ joinB (L.map (·.2))))
     have hsum := crcL_lt (headL seq L ++ joinB (L.map (·.2)))
     have HTOP : Hid (X ++ (t4 ++ ⟨#[67, 68, 88, 69]⟩) = bs (topL seq L)) := by
      show X ++ (t4 ++ bs cdxe) = _
      rw [HX.out, <- H4.out, bs_append, bs_append]; rfl
     have hXs : X.size <= 248 := by rw [HX.out, bs_len, headL_len seq L (by rw [HN.out]; omega)]; exact Nat.le_refl _
     have HFIN : Hid (∀ W, Below wr.heap.size wr W -> OwnS w.heap.size (W.setCell ⟨g, 0, none⟩ (.string (X ++ (t4 ++ ⟨#[67, 68, 88, 69]⟩)))) (.slice (some ⟨g, 0, none⟩) (j + 1) (fc' + 1)) (packL seq L)) := by
      intro W hW
      have e : (X :: L.map (·.2)).length = j + 1 := by rw [List.length_cons, HDL.out]
      have h0 := HO2.out.below hW
      rw [<- e] at h0 ⊢
      have h3 := h0.store 0 (X ++ (t4 ++ ⟨#[67, 68, 88, 69]⟩))
      rw [List.set_cons_zero, HTOP.out] at h3
      rw [HTOP.out]
      exact h3
     generalize crcL (headL seq L ++ joinB (L.map (·.2))) = sm at *
     have HST := Lib.hid hst; clear hst
     have HFR := Lib.hid hfr; clear hfr
     have j0 : (0 : Int) < (j : Int) + 1 := by omega
     go_wp2_with fail
     go_region_with (first
      | (go_at_call 177; refine (CS.out _ ((Below.refl _ _).drew)).mono ?_; rintro e w7 ⟨rfl, hb7⟩; have HB7 := Lib.hid (below_predrew hb7); have hX7 := (HB7.out.cell (p := ⟨g, 0, none⟩) hg2).trans hX0; have hf7 := (HB7.out.frozen (p := ⟨g, 0, none⟩) hg2).trans hf0; clear hb7)
      | (go_at_call 135; refine (fixed_to _ _ _ _ rfl hsum H4).mono ?_; rintro e w8 ⟨rfl, hb8⟩; have HB8 := Lib.hid (HB7.out.trans (hb8.mono HB7.out.size)); have hX8 := (HB8.out.cell (p := ⟨g, 0, none⟩) hg2).trans hX0; have hf8 := (HB8.out.frozen (p := ⟨g, 0, none⟩) hg2).trans hf0; clear hb8))
     all_goals
      go_wp2
      go_ret2
      exact ⟨_, rfl, HFIN.out _ HB8.out, (HB.out.trans (HB8.out.mono hbs)).setCell hg1 _⟩
theorem pack_any (seq : Nat) (L : List (Int × ByteArray)) (v : Value) (w : World) (hseq : seq < 18446744073709551616) (hl : L.length <= 1000) (hs : ∀ x ∈ L, x.2.size <= maxLen) (h : SlW w v L) :
  Calls Tryz.prog 129 #[.int .u64 (seq : Int), v] w fun e w' => ∃ u, e = .returned (.tuple #[u, .int .i64 (((pk seq L).2 : Nat) : Int)]) /\ OwnS w.heap.size w' u (pk seq L).1 /\ Below w.heap.size w w' := by
 unfold pk
 by_cases hc : chk L = 0
 ·rw [if_pos hc]
  exact pack_yes seq L v w hseq h hc
 ·rw [if_neg hc]
  exact (pack_no seq L v w hl hs h hc).mono fun e w' ⟨he, hb⟩ => ⟨_, he, OwnS.nil _ _, hb⟩
end Go.Proofs.YthambopnmhkeeaaGreat.Fr
/- What takeWrites answers: the writes that the numbers of a head tell, if noughts alone stand behind them. -/
set_option maxRecDepth 100000
namespace Go.Proofs.YthambopnmhkeeaaGreat.Fr
open Go.RowKit
theorem toFixed_bs (l : List UInt8) (w : World) (h4 : 4 <= l.length) (hs : l.length <= 10000) :
  Calls Tryz.prog 204 #[.string (bs l)] w fun e w' => e = .returned (.tuple #[.int .u32 ((nmAt l 0 : Nat) : Int), .string (bs (l.drop 4)), .bool true]) /\ Below w.heap.size w w' := by
 refine (toFixed_some (bs l) w (by rw [bs_len]; exact h4) (by rw [bs_len]; unfold maxLen; omega)).mono fun e w' ⟨he, hb⟩ => ⟨?_, hb⟩
 have e0 (j : Nat) (hj : j < l.length) : (bs l)[j]'(by rw [bs_len]; exact hj) = l.getD j 0 := by simp [List.getD, hj]; rfl
 rw [he, e0 0 (by omega), e0 1 (by omega), e0 2 (by omega), e0 3 (by omega), bs_ext, bs_len, List.take_of_length_le (Nat.le_refl _)]
 rfl
theorem rtoFixed_bs (l : List UInt8) (w : World) (h4 : 4 <= l.length) (hs : l.length <= 10000) :
  Calls Tryz.prog 179 #[.string (bs l)] w fun e w' => e = .returned (.tuple #[.int .u32 ((nmAt l 0 : Nat) : Int), .string (bs (l.drop 4)), .bool true]) /\ Below w.heap.size w w' := by
 refine (rtoFixed_some (bs l) w (by rw [bs_len]; exact h4) (by rw [bs_len]; unfold maxLen; omega)).mono fun e w' ⟨he, hb⟩ => ⟨?_, hb⟩
 have e0 (j : Nat) (hj : j < l.length) : (bs l)[j]'(by rw [bs_len]; exact hj) = l.getD j 0 := by simp [List.getD, hj]; rfl
 rw [he, e0 0 (by omega), e0 1 (by omega), e0 2 (by omega), e0 3 (by omega), bs_ext, bs_len, List.take_of_length_le (Nat.le_refl _)]
 rfl
theorem toFixed_at {T R : ByteArray} {q : List UInt8} {k : Nat} (w : World) (hT : T = bs (q.drop k)) (hR : R = bs (q.drop (k + 4))) (h4 : k + 4 <= q.length) (hs : q.length <= 10000) :
  Calls Tryz.prog 204 #[.string T] w fun e w' => e = .returned (.tuple #[.int .u32 ((nmAt q k : Nat) : Int), .string R, .bool true]) /\ Below w.heap.size w w' := by
 have := toFixed_bs (q.drop k) w (by rw [List.length_drop]; omega) (by rw [List.length_drop]; omega)
 rw [nmAt_drop, List.drop_drop, Nat.add_zero, <- hT, <- hR] at this
 exact this
theorem rtoFixed_at {T R : ByteArray} {q : List UInt8} {k : Nat} (w : World) (hT : T = bs (q.drop k)) (hR : R = bs (q.drop (k + 4))) (h4 : k + 4 <= q.length) (hs : q.length <= 10000) :
  Calls Tryz.prog 179 #[.string T] w fun e w' => e = .returned (.tuple #[.int .u32 ((nmAt q k : Nat) : Int), .string R, .bool true]) /\ Below w.heap.size w w' := by
 have := rtoFixed_bs (q.drop k) w (by rw [List.length_drop]; omega) (by rw [List.length_drop]; omega)
 rw [nmAt_drop, List.drop_drop, Nat.add_zero, <- hT, <- hR] at this
 exact this
def takenL (q : List UInt8) (k : Nat) : List (Int × ByteArray) := (List.range k).map fun i => (((nmAt q (4 * i) : Nat) : Int), ⟨#[]⟩)
theorem takenL_len (q : List UInt8) (k : Nat) : (takenL q k).length = k := by simp [takenL]
theorem takenL_snoc (q : List UInt8) (k : Nat) : takenL q (k + 1) = takenL q k ++ [(((nmAt q (4 * k) : Nat) : Int), ⟨#[]⟩)] := by
 unfold takenL; rw [List.range_succ, List.map_append]; rfl
theorem own_pushW {B : Nat} {w1 : World} {v1 : Value} {M : List (Int × ByteArray)} {i : Int} {s : ByteArray} (hown : w1.ownsRow B 63 2 v1 (M.length + 1) (flatI M ++ [.int .i64 i, .string s])) : OwnW B w1 v1 (M ++ [(i, s)]) := by
 unfold OwnW
 rw [List.length_append, flatI_append]
 exact hown
theorem two_cells {w : World} {t : TypeId} {i : Int} {s : ByteArray} {g : Nat} (hg : w.heap.size = g) : ∀ (j : Nat) (u : Value), [Value.int .i64 i, Value.string s][j]? = some u -> (w.alloc (.cells #[.int .i64 i, .string s] t)).cell? ((⟨g, 0, none⟩ : Addr).add j) = some u := by
 subst hg
 intro j u hu
 rw [add_at, Nat.zero_add, cell_at (heap_alloc_new ..)]
 rw [<- hu]; simp
theorem two_one {i : Int} {s : ByteArray} : ∀ u ∈ [Value.int .i64 i, Value.string s], u.oneCell' = true := by
 intro u hu
 simp only [List.mem_cons, List.not_mem_nil, or_false] at hu
 rcases hu with rfl | rfl <;> rfl
theorem some_bytes {T : ByteArray} (h : 0 < T.size) : T.toList.isEmpty = false := by
 rw [ByteArray.toList_eq, List.isEmpty_eq_false_iff]
 intro e
 have := congrArg List.length e
 rw [str_len, List.length_nil] at this
 omega
def strLen : Value -> Nat
 | .string s => s.size
 | _ => 0
set_option maxHeartbeats 2000000 in
theorem take_any (n m : Nat) (q : List UInt8) (T0 : ByteArray) (w : World) (R : Ending -> World -> Prop) (hn : n <= m) (hm : m <= 100) (hq : q.length = 4 * m) (hT0 : T0 = bs q)
  (hno : takeB n m q = false -> ∀ v w', Below w.heap.size w w' -> R (.returned (.tuple #[v, .bool false])) w')
  (hyes : takeB n m q = true -> ∀ v w', OwnW w.heap.size w' v (takenL q n) -> Below w.heap.size w w' -> R (.returned (.tuple #[v, .bool true])) w') :
  Calls Tryz.prog 232 #[.int .i64 (n : Int), .string T0] w R := by
 obtain ⟨i0, hi, hz0, hz1, hz2⟩ := info_parts Tryz.infoW
 have HZ2 := Lib.hid hz2; clear hz2
 have HNO := Lib.hid hno; clear hno
 have HYES := Lib.hid hyes; clear hyes
 have HQ := Lib.hid hq; clear hq
 have HT0 := Lib.hid hT0; clear hT0
 have hsz0 : T0.size <= 4 * m := by rw [HT0.out, bs_len, HQ.out]; exact Nat.le_refl _
 have hsz1 : 4 * m <= T0.size := by rw [HT0.out, bs_len, HQ.out]; exact Nat.le_refl _
 go_enter Tryz.func232, Tryz.ntmps232
 go_wp2_with fail
 go_step3
 go_wp2_with fail
 go_step3
 go_wp2_with fail
 go_loopw [1, 6] (fun t wv wr => ∃ k T, k <= m /\ t = .string T /\ T.size <= 4 * (m - k) /\ 4 * (m - k) <= T.size /\ Hid (T = bs (q.drop (4 * k))) /\ Hid (∀ i, i < k -> (i < n -> nmAt q (4 * i) < 4096) /\ (n <= i -> nmAt q (4 * i) = 0)) /\ Hid (OwnW w.heap.size wr wv (takenL q (min k n))) /\ Hid (Below w.heap.size w wr)) (fun t _ _ => strLen t)
 case atStart => exact ⟨0, _, Nat.zero_le _, rfl, by omega, by omega, HT0, (fun i hi => by omega), by rw [Nat.zero_min]; exact OwnW.nil _ _, Below.refl _ _⟩
 case round =>
  obtain ⟨k, T, hk, rfl, hT1, hT2, HT, HF, HO, HB⟩ := hrel
  have hbr := HB.out.size
  obtain ⟨ao, c, hv, _⟩ := HO.out.sl
  rw [takenL_len] at hv
  subst hv
  by_cases hlt : k < m
  ·obtain ⟨T2, hT3⟩ : ∃ T2, T2 = bs (q.drop (4 * k + 4)) := ⟨_, rfl⟩
   have CF := Lib.hid (toFixed_at wr HT.out hT3 (by rw [HQ.out]; omega) (by rw [HQ.out]; omega))
   have hz1' : T2.size <= 4 * (m - (k + 1)) := by rw [hT3, bs_len, List.length_drop, HQ.out]; omega
   have hz2' : 4 * (m - (k + 1)) <= T2.size := by rw [hT3, bs_len, List.length_drop, HQ.out]; omega
   have HT3 : Hid (T2 = bs (q.drop (4 * (k + 1)))) := hT3
   clear hT3
   obtain ⟨x, hx⟩ : ∃ x, nmAt q (4 * k) = x := ⟨_, rfl⟩
   have hxl := nmAt_lt q (4 * k)
   rw [hx] at CF hxl
   have HX := Lib.hid hx; clear hx
   have hTp : 0 < T.size := by omega
   by_cases hkn : k < n
   ·have emin : min k n = k := by omega
    have emin2 : min (k + 1) n = k + 1 := by omega
    rw [emin] at HO ⊢
    by_cases hx4 : x < 4096
    ·have HS := Lib.hid (takenL_snoc q k)
     rw [HX.out] at HS
     have hlen := takenL_len q k
     obtain ⟨M, hM⟩ : ∃ M, takenL q k = M := ⟨_, rfl⟩
     rw [hM] at HO HS hlen
     have HL := Lib.hid hlen
     clear hM hlen
     go_wp2_with fail
     refine CF.out.mono ?_
     rintro e w1 ⟨rfl, hb1⟩
     have HB1 : Hid (Below w.heap.size w w1) := HB.out.trans (hb1.mono hbr)
     have HO1 := Lib.hid (HO.out.below hb1)
     have hb1r := HB1.out.size
     clear hb1 CF
     go_wp2_with (at_builtin; (refine wpList_append_own _ rfl _ _ 49 rfl w.heap.size 63 i0 _ 2 24 Tryz.underlying49 hi hz0 hz1 HZ2.out rfl (by decide) _ M.length (flatI M) rfl (HO1.out.alloc _) _ 1 1 [.int .i64 x, .string ⟨#[]⟩] rfl rfl (two_cells (by simp)) two_one ?c3 ?c4 ?c5 ?_))
     case c3 => rw [HL.out]; unfold maxLen; omega
     case c4 => rw [HL.out]; omega
     case c5 => simp; omega
     intro v1 w2 hown hgrow _
     have HO2 : Hid (OwnW w.heap.size w2 v1 (takenL q (min (k + 1) n))) := by
      show OwnW _ _ _ _
      rw [emin2, HS.out]; exact own_pushW hown
     have HB2 : Hid (Below w.heap.size w w2) := (HB1.out.alloc hb1r _).grown hgrow (by simp; omega) (fun q hq => (HO1.out.lt q hq).1)
     clear hown hgrow
     go_wp2
     go_roundw
     case rel => exact ⟨k + 1, _, by omega, rfl, by omega, by omega, HT3, (fun i hi => by
       by_cases e : i = k
       ·subst e; exact ⟨fun _ => by rw [HX.out]; exact hx4, fun h => by omega⟩
       ·exact HF.out i (by omega)), HO2, HB2⟩
     case measure => simp [strLen]; omega
    ·have HE : Hid (takeB n m q = false) := by
      show _ = _
      rw [Bool.eq_false_iff]
      intro hh
      have := ((takeB_iff n m q).1 hh k hlt).1 hkn
      rw [HX.out] at this
      exact hx4 this
     have hx5 : ((x : Int) != 0) = true := by simp; omega
     go_wp2_with fail
     refine CF.out.mono ?_
     rintro e w1 ⟨rfl, hb1⟩
     have HB1 : Hid (Below w.heap.size w w1) := HB.out.trans (hb1.mono hbr)
     clear hb1 CF
     go_wp2
     rw [some_bytes hTp]; exact HNO.out HE.out _ _ HB1.out
   ·have emin : min k n = n := by omega
    have emin2 : min (k + 1) n = n := by omega
    rw [emin] at HO ⊢
    have hkn' : ¬ (n : Int) < (n : Int) := by omega
    by_cases hx0 : x = 0
    ·subst hx0
     go_wp2_with fail
     refine CF.out.mono ?_
     rintro e w1 ⟨rfl, hb1⟩
     have HB1 : Hid (Below w.heap.size w w1) := HB.out.trans (hb1.mono hbr)
     have HO1 : Hid (OwnW w.heap.size w1 (.slice ao n c) (takenL q (min (k + 1) n))) := by
      show OwnW _ _ _ _
      rw [emin2]; exact HO.out.below hb1
     clear hb1 CF
     go_wp2
     go_roundw
     case rel => exact ⟨k + 1, _, by omega, rfl, by omega, by omega, HT3, (fun i hi => by
       by_cases e : i = k
       ·subst e; exact ⟨fun h => by omega, fun _ => HX.out⟩
       ·exact HF.out i (by omega)), HO1, HB1⟩
     case measure => simp [strLen]; omega
    ·have HE : Hid (takeB n m q = false) := by
      show _ = _
      rw [Bool.eq_false_iff]
      intro hh
      have := ((takeB_iff n m q).1 hh k hlt).2 (by omega)
      rw [HX.out] at this
      exact hx0 this
     have hx5 : ((x : Int) != 0) = true := by simp; omega
     go_wp2_with fail
     refine CF.out.mono ?_
     rintro e w1 ⟨rfl, hb1⟩
     have HB1 : Hid (Below w.heap.size w w1) := HB.out.trans (hb1.mono hbr)
     clear hb1 CF
     go_wp2
     rw [some_bytes hTp]; exact HNO.out HE.out _ _ HB1.out
  ·have hkm : k = m := by omega
   subst hkm
   have emin : min k n = n := by omega
   rw [emin] at HO ⊢
   have HE : Hid (takeB n k q = true) := (takeB_iff n k q).2 HF.out
   have hTz : T.size = 0 := by omega
   have hT0 : T = ⟨#[]⟩ := by
    apply ByteArray.ext
    exact Array.eq_empty_of_size_eq_zero hTz
   subst hT0
   go_wp2
   exact HYES.out HE.out _ _ HO.out HB.out
end Go.Proofs.YthambopnmhkeeaaGreat.Fr
/- What readHead and Head answer: what a head tells, or that it is none. -/
set_option maxRecDepth 100000
namespace Go.Proofs.YthambopnmhkeeaaGreat.Fr
open Go.RowKit
theorem prefix_iff (l : List UInt8) : Lib.hasPrefix l cdxt = true ↔ l.take 4 = cdxt := by
 unfold Lib.hasPrefix
 rw [List.isPrefixOf_iff_prefix]
 constructor
 ·intro h; obtain ⟨t, rfl⟩ := h; rfl
 ·intro h; rw [<- h]; exact List.take_prefix _ _
theorem suffix_iff (l : List UInt8) (hl : l.length = 256) : Lib.hasSuffix l cdxe = true ↔ l.drop 252 = cdxe := by
 unfold Lib.hasSuffix
 rw [List.isSuffixOf_iff_suffix]
 constructor
 ·intro h
  obtain ⟨t, rfl⟩ := h
  have e : t.length = 252 := by rw [List.length_append] at hl; simp [cdxe] at hl; omega
  rw [<- e, List.drop_left]
 ·intro h; rw [<- h]; exact List.drop_suffix _ _
theorem or64 (hi lo : Nat) (h1 : hi < 4294967296) (h2 : lo < 4294967296) : bits .or .u64 ((hi : Int) * 4294967296) (lo : Int) = ((lo + 4294967296 * hi : Nat) : Int) := by
 rw [show (hi : Int) * 4294967296 = ((hi * 4294967296 : Nat) : Int) by omega, u64_or_nat _ _ (by omega) (by omega), nat_join 32 _ _ (by omega) (by omega)]
 omega
theorem readHead_size (s : ByteArray) (w : World) (h : ((s.size : Int) != 256) = true) :
  Calls Tryz.prog 223 #[.string s] w fun e w' => e = .returned (.tuple #[.int .u64 0, .slice none 0 0, .bool false]) /\ Below w.heap.size w w' := by
 go_enter Tryz.func223, Tryz.ntmps223
 go_wp2
 go_ret3
 exact ⟨rfl, Below.refl _ _⟩
theorem readHead_begin (s : ByteArray) (w : World) (h : ((s.size : Int) != 256) = false) (hp : Lib.hasPrefix s.data.toList cdxt = false) :
  Calls Tryz.prog 223 #[.string s] w fun e w' => e = .returned (.tuple #[.int .u64 0, .slice none 0 0, .bool false]) /\ Below w.heap.size w w' := by
 have C := Lib.hid (Tryz.strings_HasPrefix s ⟨#[67, 68, 88, 84]⟩ w)
 rw [show (⟨#[67, 68, 88, 84]⟩ : ByteArray).data.toList = cdxt from rfl, hp] at C
 clear hp
 go_enter Tryz.func223, Tryz.ntmps223
 go_wp2_with fail
 refine C.out.mono ?_
 rintro e w' ⟨rfl, rfl⟩
 go_wp2
 go_ret3
 exact ⟨rfl, Below.refl _ _⟩
theorem readHead_end (s : ByteArray) (w : World) (hs : s.size <= 1000) (h : ((s.size : Int) != 256) = false) (hp : Lib.hasPrefix s.data.toList cdxt = true) (hq : Lib.hasSuffix s.data.toList cdxe = false) :
  Calls Tryz.prog 223 #[.string s] w fun e w' => e = .returned (.tuple #[.int .u64 0, .slice none 0 0, .bool false]) /\ Below w.heap.size w w' := by
 have C := Lib.hid (Tryz.strings_HasPrefix s ⟨#[67, 68, 88, 84]⟩ w)
 have D := Lib.hid (Tryz.strings_HasSuffix s ⟨#[67, 68, 88, 69]⟩ w (by omega))
 rw [show (⟨#[67, 68, 88, 84]⟩ : ByteArray).data.toList = cdxt from rfl, hp] at C
 rw [show (⟨#[67, 68, 88, 69]⟩ : ByteArray).data.toList = cdxe from rfl, hq] at D
 clear hp hq
 go_enter Tryz.func223, Tryz.ntmps223
 go_wp2_with fail
 refine C.out.mono ?_
 rintro e w' ⟨rfl, rfl⟩
 go_wp2_with fail
 refine D.out.mono ?_
 rintro e w' ⟨rfl, rfl⟩
 go_wp2
 go_ret3
 exact ⟨rfl, Below.refl _ _⟩
set_option maxHeartbeats 2000000 in
theorem readHead_form (s : ByteArray) (l : List UInt8) (w : World) (R : Ending -> World -> Prop) (hl : s.data.toList = l) (hn : l.length = 256) (hp : Lib.hasPrefix l cdxt = true) (hq : Lib.hasSuffix l cdxe = true)
  (hno : ¬ (1 <= nmAt l 12 /\ nmAt l 12 <= 48 /\ takeB (nmAt l 12) 58 ((l.take 248).drop 16) = true) -> ∀ w', Below w.heap.size w w' -> R (.returned (.tuple #[.int .u64 0, .slice none 0 0, .bool false])) w')
  (hyes : 1 <= nmAt l 12 -> nmAt l 12 <= 48 -> takeB (nmAt l 12) 58 ((l.take 248).drop 16) = true -> ∀ v w', OwnW w.heap.size w' v (takenL ((l.take 248).drop 16) (nmAt l 12)) -> Below w.heap.size w w' -> R (.returned (.tuple #[.int .u64 ((seqOf l : Nat) : Int), v, .bool true])) w') :
  Calls Tryz.prog 223 #[.string s] w R := by
 have hsz : s.size = 256 := by rw [<- str_len, hl, hn]
 have C := Lib.hid (Tryz.strings_HasPrefix s ⟨#[67, 68, 88, 84]⟩ w)
 have D := Lib.hid (Tryz.strings_HasSuffix s ⟨#[67, 68, 88, 69]⟩ w (by omega))
 rw [show (⟨#[67, 68, 88, 84]⟩ : ByteArray).data.toList = cdxt from rfl, hl, hp] at C
 rw [show (⟨#[67, 68, 88, 69]⟩ : ByteArray).data.toList = cdxe from rfl, hl, hq] at D
 clear hp hq
 have HNO := Lib.hid hno; clear hno
 have HYES := Lib.hid hyes; clear hyes
 have h1 : ((s.size : Int) != 256) = false := by simp; omega
 have i1 : (248 : Int) <= (s.size : Int) := by omega
 have hq2 : (l.take 248).length = 248 := by rw [List.length_take]; omega
 obtain ⟨T1, hT1⟩ : ∃ T, s.extract 4 248 = T := ⟨_, rfl⟩
 have HT1 : Hid (T1 = bs ((l.take 248).drop 4)) := by show _ = _; rw [<- hT1, <- bs_data s, hl, bs_ext]
 obtain ⟨T2, HT2⟩ : ∃ T2, Hid (T2 = bs ((l.take 248).drop (4 + 4))) := ⟨_, rfl⟩
 obtain ⟨T3, HT3⟩ : ∃ T3, Hid (T3 = bs ((l.take 248).drop (8 + 4))) := ⟨_, rfl⟩
 obtain ⟨T4, HT4⟩ : ∃ T4, Hid (T4 = bs ((l.take 248).drop (12 + 4))) := ⟨_, rfl⟩
 have F1 : Hid (∀ W, Calls Tryz.prog 204 #[.string T1] W fun e w' => e = .returned (.tuple #[.int .u32 ((nmAt l 4 : Nat) : Int), .string T2, .bool true]) /\ Below W.heap.size W w') := fun W => by
  have := toFixed_at W HT1.out HT2.out (by omega) (by omega)
  rw [nmAt_take _ _ _ (by omega)] at this; exact this
 have F2 : Hid (∀ W, Calls Tryz.prog 204 #[.string T2] W fun e w' => e = .returned (.tuple #[.int .u32 ((nmAt l 8 : Nat) : Int), .string T3, .bool true]) /\ Below W.heap.size W w') := fun W => by
  have := toFixed_at (k := 8) W HT2.out HT3.out (by omega) (by omega)
  rw [nmAt_take _ _ _ (by omega)] at this; exact this
 have F3 : Hid (∀ W, Calls Tryz.prog 204 #[.string T3] W fun e w' => e = .returned (.tuple #[.int .u32 ((nmAt l 12 : Nat) : Int), .string T4, .bool true]) /\ Below W.heap.size W w') := fun W => by
  have := toFixed_at (k := 12) W HT3.out HT4.out (by omega) (by omega)
  rw [nmAt_take _ _ _ (by omega)] at this; exact this
 have x4 := nmAt_lt l 4
 have x8 := nmAt_lt l 8
 have HTK : Hid (∀ W R', nmAt l 12 <= 58 -> (takeB (nmAt l 12) 58 ((l.take 248).drop 16) = false -> ∀ v w', Below W.heap.size W w' -> R' (.returned (.tuple #[v, .bool false])) w') -> (takeB (nmAt l 12) 58 ((l.take 248).drop 16) = true -> ∀ v w', OwnW W.heap.size w' v (takenL ((l.take 248).drop 16) (nmAt l 12)) -> Below W.heap.size W w' -> R' (.returned (.tuple #[v, .bool true])) w') -> Calls Tryz.prog 232 #[.int .i64 ((nmAt l 12 : Nat) : Int), .string T4] W R') :=
  fun W R' h58 ha hb => take_any _ 58 _ T4 W R' h58 (by omega) (by rw [List.length_drop]; omega) HT4.out ha hb
 have HSEQ : Hid (seqOf l = nmAt l 4 + 4294967296 * nmAt l 8) := rfl
 have x12 := nmAt_lt l 12
 obtain ⟨lo, hlo⟩ : ∃ x, nmAt l 4 = x := ⟨_, rfl⟩
 obtain ⟨hi, hhi⟩ : ∃ x, nmAt l 8 = x := ⟨_, rfl⟩
 obtain ⟨n, hnn⟩ : ∃ x, nmAt l 12 = x := ⟨_, rfl⟩
 rw [hlo] at F1 x4 HSEQ
 rw [hhi] at F2 x8 HSEQ
 rw [hnn] at F3 HTK HNO HYES x12
 obtain ⟨sq, hsq⟩ : ∃ x, seqOf l = x := ⟨_, rfl⟩
 rw [hsq] at HSEQ HYES
 have HOR : Hid (bits .or .u64 ((hi : Int) * 4294967296) (lo : Int) = (sq : Int)) := by show _ = _; rw [HSEQ.out]; exact or64 hi lo x8 x4
 clear hlo hhi hnn hsq hl hq2
 go_enter Tryz.func223, Tryz.ntmps223
 go_wp2_with fail
 refine C.out.mono ?_
 rintro e w' ⟨rfl, rfl⟩
 go_wp2_with fail
 refine D.out.mono ?_
 rintro e w' ⟨rfl, rfl⟩
 clear C D
 go_wp2_with fail
 refine (F1.out _).mono ?_
 rintro e w1 ⟨rfl, hb1⟩
 have HB1 := Lib.hid hb1; clear hb1
 go_wp2_with fail
 refine (F2.out _).mono ?_
 rintro e w2 ⟨rfl, hb2⟩
 have HB2 := Lib.hid (HB1.out.trans (hb2.mono HB1.out.size)); clear hb2
 go_wp2_with fail
 refine (F3.out _).mono ?_
 rintro e w3 ⟨rfl, hb3⟩
 have HB3 := Lib.hid (HB2.out.trans (hb3.mono HB2.out.size)); clear hb3 HB1 HB2 F1 F2 F3
 by_cases hr : 1 <= n /\ n <= 48
 ·obtain ⟨hr1, hr2⟩ := hr
  have k1 : ¬ (n : Int) < 1 := by omega
  have k2 : ¬ (48 : Int) < (n : Int) := by omega
  go_wp2_with fail
  refine HTK.out _ _ (by omega) ?_ ?_
  ·intro hf v w4 hb4
   have HB4 := Lib.hid (HB3.out.trans (hb4.mono HB3.out.size))
   have HF := Lib.hid hf
   clear hb4 hf
   go_wp2
   go_ret3
   exact HNO.out (fun hh => by rw [HF.out] at hh; exact absurd hh.2.2 (by decide)) _ HB4.out
  ·intro hf v w4 ho4 hb4
   have HB4 := Lib.hid (HB3.out.trans (hb4.mono HB3.out.size))
   have HO4 := Lib.hid (ho4.mono HB3.out.size)
   have HF := Lib.hid hf
   clear hb4 hf ho4
   go_wp2
   go_ret3
   rw [HOR.out]
   exact HYES.out hr1 hr2 HF.out _ _ HO4.out HB4.out
 ·by_cases k1 : (n : Int) < 1
  ·go_wp2
   go_ret3
   exact HNO.out (fun hh => hr ⟨hh.1, hh.2.1⟩) _ HB3.out
  ·have k2 : (48 : Int) < (n : Int) := by omega
   go_wp2
   go_ret3
   exact HNO.out (fun hh => hr ⟨hh.1, hh.2.1⟩) _ HB3.out
theorem headB_false {s : ByteArray} (h : headB s.data.toList = false) : hd s = (0, 0, false) := by unfold hd; rw [h]; rfl
theorem headB_true {s : ByteArray} (h : headB s.data.toList = true) : hd s = (seqOf s.data.toList, nmAt s.data.toList 12, true) := by unfold hd; rw [if_pos h]
theorem readHead_no (s : ByteArray) (w : World) (h : headB s.data.toList = false) :
  Calls Tryz.prog 223 #[.string s] w fun e w' => e = .returned (.tuple #[.int .u64 0, .slice none 0 0, .bool false]) /\ Below w.heap.size w w' := by
 by_cases h1 : s.size = 256
 ·have hne : ((s.size : Int) != 256) = false := by simp; omega
  have hl : s.data.toList.length = 256 := by rw [str_len]; exact h1
  cases hp : Lib.hasPrefix s.data.toList cdxt with
  | false => exact readHead_begin s w hne hp
  | true =>
   cases hq : Lib.hasSuffix s.data.toList cdxe with
   | false => exact readHead_end s w (by omega) hne hp hq
   | true =>
    refine readHead_form s _ w _ rfl hl hp hq (fun _ w' hb => ⟨rfl, hb⟩) ?_
    intro k1 k2 k3
    exfalso
    rw [Bool.eq_false_iff] at h
    exact h ((headB_iff _).2 ⟨hl, (prefix_iff _).1 hp, (suffix_iff _ hl).1 hq, k1, k2, k3⟩)
 ·exact readHead_size s w (by simp; omega)
theorem readHead_yes (s : ByteArray) (w : World) (h : headB s.data.toList = true) :
  Calls Tryz.prog 223 #[.string s] w fun e w' => ∃ v, e = .returned (.tuple #[.int .u64 ((seqOf s.data.toList : Nat) : Int), v, .bool true]) /\ OwnW w.heap.size w' v (takenL ((s.data.toList.take 248).drop 16) (nmAt s.data.toList 12)) /\ Below w.heap.size w w' := by
 obtain ⟨h1, h2, h3, h4, h5, h6⟩ := (headB_iff _).1 h
 exact readHead_form s _ w _ rfl h1 ((prefix_iff _).2 h2) ((suffix_iff _ h1).2 h3) (fun hn => absurd ⟨h4, h5, h6⟩ hn) (fun _ _ _ v w' ho hb => ⟨v, rfl, ho, hb⟩)
set_option maxHeartbeats 1000000 in
theorem head_any (s : ByteArray) (w : World) :
  Calls Tryz.prog 205 #[.string s] w fun e w' => e = .returned (.tuple #[.int .u64 (((hd s).1 : Nat) : Int), .int .i64 (((hd s).2.1 : Nat) : Int), .bool (hd s).2.2]) /\ Below w.heap.size w w' := by
 cases h : headB s.data.toList with
 | false =>
  rw [headB_false h]
  have C := Lib.hid (readHead_no s w h)
  clear h
  go_enter Tryz.func205, Tryz.ntmps205
  go_wp2_with fail
  refine C.out.mono ?_
  rintro e w1 ⟨rfl, hb1⟩
  have HB := Lib.hid hb1; clear hb1 C
  go_wp2
  go_ret3
  exact ⟨rfl, HB.out⟩
 | true =>
  rw [headB_true h]
  have C := Lib.hid (readHead_yes s w h)
  clear h
  generalize seqOf s.data.toList = sq at *
  generalize nmAt s.data.toList 12 = n at *
  go_enter Tryz.func205, Tryz.ntmps205
  go_wp2_with fail
  refine C.out.mono ?_
  rintro e w1 ⟨v, rfl, ho, hb1⟩
  have HB := Lib.hid hb1; clear hb1 C
  obtain ⟨ao, c, hv, _⟩ := ho.sl
  rw [takenL_len] at hv
  subst hv
  clear ho
  go_wp2
  go_ret3
  exact ⟨rfl, HB.out⟩
end Go.Proofs.YthambopnmhkeeaaGreat.Fr
/- What the document's own blocks and Head answer: the same. -/
set_option maxRecDepth 100000
namespace Go.Proofs.YthambopnmhkeeaaGreat.Fr
open Go.RowKit
def OwnI (B : Nat) (w : World) (v : Value) (L : List Int) : Prop := w.ownsRow B 3 1 v L.length (L.map (Value.int .i64))
theorem OwnI.below {B : Nat} {w w' : World} {v : Value} {L : List Int} (h : OwnI B w v L) (hb : Below w.heap.size w w') : OwnI B w' v L := own_below h hb
theorem OwnI.mono {B B' : Nat} {w : World} {v : Value} {L : List Int} (h : OwnI B w v L) (hb : B' <= B) : OwnI B' w v L := own_mono h hb
theorem OwnI.shape {B : Nat} {w : World} {v : Value} {L : List Int} (h : OwnI B w v L) : ∃ ao c, v = .slice ao L.length c := by
 rcases h.2 with ⟨e, hn⟩ | ⟨g, cap, cur, e, _⟩
 ·exact ⟨none, 0, by rw [e, hn]⟩
 ·exact ⟨_, cap, e⟩
theorem OwnI.here {B : Nat} {w : World} {v : Value} {L : List Int} (h : OwnI B w v L) (h0 : 0 < L.length) : ∃ g c, v = .slice (some ⟨g, 0, none⟩) L.length c /\ g < w.heap.size /\ ∀ j (hj : j < L.length), w.cell? ⟨g, j, none⟩ = some (.int .i64 L[j]) := by
 have hO := h
 rcases h.2 with ⟨_, hn⟩ | ⟨g, cap, cur, rfl, hbg, hg, hc, _⟩
 ·omega
 ·refine ⟨g, cap, rfl, (Array.getElem?_eq_some_iff.1 hg).1, fun j hj => ?_⟩
  rw [World.ownsRow.cellAt hO j (by omega)]
  simp [hj]
theorem own_pushI {B : Nat} {w1 : World} {v1 : Value} {M : List Int} {i : Int} (hown : w1.ownsRow B 3 1 v1 (M.length + 1) (M.map (Value.int .i64) ++ [.int .i64 i])) : OwnI B w1 v1 (M ++ [i]) := by
 unfold OwnI
 rw [List.length_append, List.map_append]
 exact hown
theorem int_cell {w : World} {t : TypeId} {i : Int} {g : Nat} (hg : w.heap.size = g) : ∀ (j : Nat) (u : Value), [Value.int .i64 i][j]? = some u -> (w.alloc (.cells #[.int .i64 i] t)).cell? ((⟨g, 0, none⟩ : Addr).add j) = some u := by
 subst hg
 intro j u hu
 cases j with
 | zero => rw [add_at, cell_at (heap_alloc_new ..)]; exact hu
 | succ j => simp at hu
theorem int_one {i : Int} : ∀ u ∈ [Value.int .i64 i], u.oneCell' = true := by intro u hu; simp at hu; subst hu; rfl
def nmsL (l : List UInt8) (k : Nat) : List Int := (List.range k).map fun i => ((nmAt l (16 + 4 * i) : Nat) : Int)
theorem nmsL_len (l : List UInt8) (k : Nat) : (nmsL l k).length = k := by simp [nmsL]
theorem nmsL_snoc (l : List UInt8) (k : Nat) : nmsL l (k + 1) = nmsL l k ++ [((nmAt l (16 + 4 * k) : Nat) : Int)] := by unfold nmsL; rw [List.range_succ, List.map_append]; rfl
theorem ext_eq (s : ByteArray) (l : List UInt8) (hl : s.data.toList = l) (k : Nat) : s.extract k s.size = bs (l.drop k) := by
 subst hl
 have := bs_ext s.data.toList k s.size
 rw [bs_data] at this
 rw [this, List.take_of_length_le (by rw [str_len]; exact Nat.le_refl _)]
theorem ext_to (s : ByteArray) (l : List UInt8) (hl : s.data.toList = l) (k : Nat) : s.extract 0 k = bs (l.take k) := by
 subst hl
 have := bs_ext s.data.toList 0 k
 rw [bs_data, List.drop_zero] at this
 exact this
set_option maxHeartbeats 1000000 in
theorem rblocks_size (s : ByteArray) (w : World) (h : ((s.size : Int) != 256) = true) :
  Calls Tryz.prog 209 #[.string s] w fun e w' => e = .returned (.tuple #[.int .u64 0, .slice none 0 0, .bool false]) /\ Below w.heap.size w w' := by
 go_enter Tryz.func209, Tryz.ntmps209
 go_wp2
 go_ret3
 exact ⟨rfl, Below.refl _ _⟩
theorem lit_diff {X : ByteArray} {l : List UInt8} (h : X ≠ bs l) : (X.toList == l) = false := by
 have := str_diff h
 rw [ByteArray.toList_eq (bs l)] at this
 exact this
theorem lit_same {X : ByteArray} {l : List UInt8} (h : X = bs l) : (X.toList == l) = true := by
 have := str_same h
 rw [ByteArray.toList_eq (bs l)] at this
 exact this
set_option maxHeartbeats 1000000 in
theorem rblocks_begin (s : ByteArray) (w : World) (hz : s.size = 256) (hp : s.extract 0 4 ≠ bs cdxt) :
  Calls Tryz.prog 209 #[.string s] w fun e w' => e = .returned (.tuple #[.int .u64 0, .slice none 0 0, .bool false]) /\ Below w.heap.size w w' := by
 have h : ((s.size : Int) != 256) = false := by simp; omega
 have i1 : (4 : Int) <= (s.size : Int) := by omega
 have hd : (!((s.extract 0 4).toList == [67, 68, 88, 84])) = true := by rw [show ([67, 68, 88, 84] : List UInt8) = cdxt from rfl, lit_diff hp]; rfl
 clear hp hz
 obtain ⟨X, hX⟩ : ∃ X, s.extract 0 4 = X := ⟨_, rfl⟩
 rw [hX] at hd
 go_enter Tryz.func209, Tryz.ntmps209
 go_wp2
 go_ret3
 exact ⟨rfl, Below.refl _ _⟩
set_option maxHeartbeats 1000000 in
theorem rblocks_end (s : ByteArray) (w : World) (hz : s.size = 256) (hp : s.extract 0 4 = bs cdxt) (hq : s.extract 252 s.size ≠ bs cdxe) :
  Calls Tryz.prog 209 #[.string s] w fun e w' => e = .returned (.tuple #[.int .u64 0, .slice none 0 0, .bool false]) /\ Below w.heap.size w w' := by
 have h : ((s.size : Int) != 256) = false := by simp; omega
 have i1 : (4 : Int) <= (s.size : Int) := by omega
 have i2 : (252 : Int) <= (s.size : Int) := by omega
 have hd : (!((s.extract 0 4).toList == [67, 68, 88, 84])) = false := by rw [show ([67, 68, 88, 84] : List UInt8) = cdxt from rfl, lit_same hp]; rfl
 have he : (!((s.extract 252 s.size).toList == [67, 68, 88, 69])) = true := by rw [show ([67, 68, 88, 69] : List UInt8) = cdxe from rfl, lit_diff hq]; rfl
 clear hp hq hz
 obtain ⟨X, hX⟩ : ∃ X, s.extract 0 4 = X := ⟨_, rfl⟩
 rw [hX] at hd
 obtain ⟨Y, hY⟩ : ∃ Y, s.extract 252 s.size = Y := ⟨_, rfl⟩
 rw [hY] at he
 go_enter Tryz.func209, Tryz.ntmps209
 go_wp2
 go_ret3
 exact ⟨rfl, Below.refl _ _⟩
set_option maxHeartbeats 4000000 in
theorem rblocks_form (s : ByteArray) (l : List UInt8) (w : World) (R : Ending -> World -> Prop) (hl : s.data.toList = l) (hn : l.length = 256) (hp : s.extract 0 4 = bs cdxt) (hq : s.extract 252 s.size = bs cdxe)
  (hno : ¬ (1 <= nmAt l 12 /\ nmAt l 12 <= 48 /\ takeB (nmAt l 12) 58 ((l.take 248).drop 16) = true) -> ∀ w', Below w.heap.size w w' -> R (.returned (.tuple #[.int .u64 0, .slice none 0 0, .bool false])) w')
  (hyes : 1 <= nmAt l 12 -> nmAt l 12 <= 48 -> takeB (nmAt l 12) 58 ((l.take 248).drop 16) = true -> ∀ v w', OwnI w.heap.size w' v (blocksOf l) -> Below w.heap.size w w' -> R (.returned (.tuple #[.int .u64 ((seqOf l : Nat) : Int), v, .bool true])) w') :
  Calls Tryz.prog 209 #[.string s] w R := by
 obtain ⟨i0, hi, hz0, hz1, hz2⟩ := info_parts Tryz.infoI
 have HZ2 := Lib.hid hz2; clear hz2
 have hsz : s.size = 256 := by rw [<- str_len, hl, hn]
 have h1 : ((s.size : Int) != 256) = false := by simp; omega
 have i1 : (4 : Int) <= (s.size : Int) := by omega
 have i2 : (252 : Int) <= (s.size : Int) := by omega
 have i3 : (8 : Int) <= (s.size : Int) := by omega
 have i4 : (12 : Int) <= (s.size : Int) := by omega
 have hd : (!((s.extract 0 4).toList == [67, 68, 88, 84])) = false := by rw [show ([67, 68, 88, 84] : List UInt8) = cdxt from rfl, lit_same hp]; rfl
 have he : (!((s.extract 252 s.size).toList == [67, 68, 88, 69])) = false := by rw [show ([67, 68, 88, 69] : List UInt8) = cdxe from rfl, lit_same hq]; rfl
 clear hp hq
 have HNO := Lib.hid hno; clear hno
 have HYES := Lib.hid hyes; clear hyes
 have F : Hid (∀ W k, k + 4 <= 256 -> ∃ T2, Calls Tryz.prog 179 #[.string (s.extract k s.size)] W fun e w' => e = .returned (.tuple #[.int .u32 ((nmAt l k : Nat) : Int), .string T2, .bool true]) /\ Below W.heap.size W w') := fun W k hk =>
  ⟨_, rtoFixed_at W (ext_eq s l hl k) rfl (by omega) (by omega)⟩
 have x4 := nmAt_lt l 4
 have x8 := nmAt_lt l 8
 have x12 := nmAt_lt l 12
 have HSEQ : Hid (seqOf l = nmAt l 4 + 4294967296 * nmAt l 8) := rfl
 have HBL : Hid (blocksOf l = nmsL l (nmAt l 12)) := rfl
 have F4 := Lib.hid (fun W => F.out W 4 (by omega))
 have F8 := Lib.hid (fun W => F.out W 8 (by omega))
 have F12 := Lib.hid (fun W => F.out W 12 (by omega))
 have HGD : Hid (∀ j (h : j < s.size), s[j] = l.getD j 0) := fun j hj => by
  subst hl
  have h' : j < s.data.toList.length := by rw [str_len]; exact hj
  rw [getD_at _ j h']; rfl
 obtain ⟨lo, hlo⟩ : ∃ x, nmAt l 4 = x := ⟨_, rfl⟩
 obtain ⟨hi', hhi⟩ : ∃ x, nmAt l 8 = x := ⟨_, rfl⟩
 obtain ⟨n, hnn⟩ : ∃ x, nmAt l 12 = x := ⟨_, rfl⟩
 rw [hlo] at F4 x4 HSEQ
 rw [hhi] at F8 x8 HSEQ
 rw [hnn] at F12 HNO HYES x12 HBL
 obtain ⟨sq, hsq⟩ : ∃ x, seqOf l = x := ⟨_, rfl⟩
 rw [hsq] at HSEQ HYES
 have HL := Lib.hid hl
 clear hlo hhi hnn hsq hl hn
 have HSZ := Lib.hid hsz
 have zz1 : s.size <= 256 := by omega
 have zz2 : 256 <= s.size := by omega
 clear hsz
 go_enter Tryz.func209, Tryz.ntmps209
 obtain ⟨T4, c4⟩ := F4.out w
 have C4 := Lib.hid c4; clear c4 F4
 go_wp2_with fail
 refine C4.out.mono ?_
 rintro e w1 ⟨rfl, hb1⟩
 have HB1 := Lib.hid hb1; clear hb1 C4
 obtain ⟨T8, c8⟩ := F8.out w1
 have C8 := Lib.hid c8; clear c8 F8
 go_wp2_with fail
 refine C8.out.mono ?_
 rintro e w2 ⟨rfl, hb2⟩
 have HB2 := Lib.hid (HB1.out.trans (hb2.mono HB1.out.size)); clear hb2 C8 HB1
 obtain ⟨T12, c12⟩ := F12.out w2
 have C12 := Lib.hid c12; clear c12 F12
 go_wp2_with fail
 refine C12.out.mono ?_
 rintro e w3 ⟨rfl, hb3⟩
 have HB3 := Lib.hid (HB2.out.trans (hb3.mono HB2.out.size)); clear hb3 C12 HB2
 by_cases hr : 1 <= n /\ n <= 48
 ·obtain ⟨hr1, hr2⟩ := hr
  have k1 : ¬ (n : Int) < 1 := by omega
  have k2 : ¬ (48 : Int) < (n : Int) := by omega
  clear hd he
  go_wp2_with fail
  go_loopw [14, 15] (fun ov i wr => ∃ k : Nat, k <= n /\ i = .int .i64 k /\ Hid (∀ i, i < k -> nmAt l (16 + 4 * i) < 4096) /\ Hid (OwnI w.heap.size wr ov (nmsL l k)) /\ Hid (Below w.heap.size w wr)) (fun _ i _ => n - (intOf i).toNat)
  case atStart => exact ⟨0, Nat.zero_le _, rfl, (fun i hi => by omega), World.ownsRow_nil _ _ _ _, HB3⟩
  case round =>
   clear HB3
   obtain ⟨k, hk, rfl, HK, HO, HB⟩ := hrel
   have hbr := HB.out.size
   by_cases hlt : k < n
   ·obtain ⟨Tk, ck⟩ := F.out wr (16 + 4 * k) (by omega)
    have hxl := nmAt_lt l (16 + 4 * k)
    have HS := Lib.hid (nmsL_snoc l k)
    obtain ⟨x, hx⟩ : ∃ x, nmAt l (16 + 4 * k) = x := ⟨_, rfl⟩
    rw [hx] at ck hxl HS
    have HX := Lib.hid hx; clear hx
    have CK := Lib.hid ck; clear ck
    have hlen := nmsL_len l k
    obtain ⟨ao, c, hv⟩ := HO.out.shape
    rw [hlen] at hv
    obtain ⟨M, hM⟩ : ∃ M, nmsL l k = M := ⟨_, rfl⟩
    rw [hM] at HO HS hlen
    have HLN := Lib.hid hlen
    clear hM hlen
    subst hv
    have i5 : (16 : Int) + 4 * (k : Int) <= (s.size : Int) := by omega
    have i6 : (k : Int) < (n : Int) := by omega
    by_cases hx4 : x < 4096
    ·go_wp2_with fail
     refine CK.out.mono ?_
     rintro e w4 ⟨rfl, hb4⟩
     have HB4 := Lib.hid (HB.out.trans (hb4.mono hbr))
     have HO4 := Lib.hid (HO.out.below hb4)
     have hb4r := HB4.out.size
     clear hb4 CK
     have i7 : ¬ (4096 : Int) <= (x : Int) := by omega
     go_wp2_with (at_builtin; refine wpList_append_own _ rfl _ _ 175 rfl w.heap.size 3 i0 _ 1 8 Tryz.underlying175 hi hz0 hz1 HZ2.out rfl (by decide) _ M.length (M.map (Value.int .i64)) rfl (HO4.out.alloc _) _ 1 1 [.int .i64 x] rfl rfl (int_cell (by simp)) int_one ?c3 ?c4 ?c5 ?_)
     case c3 => rw [HLN.out]; unfold maxLen; omega
     case c4 => rw [HLN.out]; omega
     case c5 => simp; omega
     intro v1 w5 hown hgrow _
     have HO5 : Hid (OwnI w.heap.size w5 v1 (nmsL l (k + 1))) := by
      show OwnI _ _ _ _
      rw [HS.out]; exact own_pushI hown
     have HB5 : Hid (Below w.heap.size w w5) := (HB4.out.alloc hb4r _).grown hgrow (by simp; omega) (fun q hq => (HO4.out.lt q hq).1)
     clear hown hgrow
     go_wp2
     go_roundw
     case rel => exact ⟨k + 1, by omega, by go_num, (fun i hi => by
       by_cases e : i = k
       ·subst e; rw [HX.out]; exact hx4
       ·exact HK.out i (by omega)), HO5, HB5⟩
     case measure => simp [intOf]; omega
    ·have HE : Hid (¬ (1 <= n /\ n <= 48 /\ takeB n 58 ((l.take 248).drop 16) = true)) := fun hh => by
      have := ((takeB_iff _ _ _).1 hh.2.2 k (by omega)).1 hlt
      rw [nmAt_drop, nmAt_take _ _ _ (by omega), HX.out] at this
      exact hx4 this
     have i7 : (4096 : Int) <= (x : Int) := by omega
     go_wp2_with fail
     refine CK.out.mono ?_
     rintro e w4 ⟨rfl, hb4⟩
     have HB4 := Lib.hid (HB.out.trans (hb4.mono hbr))
     clear hb4 CK
     go_wp2
     go_ret3
     exact HNO.out HE.out _ HB4.out
   ·have hkn : k = n := by omega
    subst hkn
    have i6 : ¬ (k : Int) < (k : Int) := by omega
    go_wp2_with fail
    have HO1 : Hid (OwnI w.heap.size wr u14 (blocksOf l)) := by
     show OwnI _ _ _ _
     rw [HBL.out]; exact HO.out
    clear HO
    go_loop [19] (fun i => ∃ j : Nat, 16 + 4 * k <= j /\ j <= 248 /\ i = .int .i64 j /\ Hid (∀ t, 16 + 4 * k <= t -> t < j -> l.getD t 0 = 0)) (fun i => 248 - (intOf i).toNat)
    case atStart => exact ⟨16 + 4 * k, Nat.le_refl _, by omega, by go_num, fun t h1 h2 => by omega⟩
    case round =>
     obtain ⟨j, hj1, hj2, rfl, HJ⟩ := hrel
     by_cases hj : j < 248
     ·have hjs : j < s.size := by omega
      have hb := HGD.out j hjs
      obtain ⟨bj, hbj⟩ : ∃ b, s[j] = b := ⟨_, rfl⟩
      rw [hbj] at hb
      have HBJ := Lib.hid hb; clear hb
      have i7 : (j : Int) < 248 := by omega
      have i8 : (j : Int) < (s.size : Int) := by omega
      by_cases h0 : bj = 0
      ·have HJ2 : Hid (∀ t, 16 + 4 * k <= t -> t < j + 1 -> l.getD t 0 = 0) := fun t h1 h2 => by
        by_cases e : t = j
        ·subst e; rw [<- HBJ.out]; exact h0
        ·exact HJ.out t h1 (by omega)
       have hne : ((bj.toNat : Int) != 0) = false := by rw [h0]; rfl
       clear h0
       go_wp2
       go_round
       case rel => exact ⟨j + 1, by omega, by omega, by go_num, HJ2⟩
       case measure => simp [intOf]; omega
      ·have HE : Hid (¬ (1 <= k /\ k <= 48 /\ takeB k 58 ((l.take 248).drop 16) = true)) := fun hh => by
        have := take_bytes k 58 _ (by omega) hh.2.2 (j - 16) (by omega) (by omega)
        rw [getD_drop, getD_take _ _ _ (by omega), show 16 + (j - 16) = j by omega, <- HBJ.out] at this
        exact h0 this
       have hne : ((bj.toNat : Int) != 0) = true := by
        simp only [bne_iff_ne, ne_eq]
        intro e
        exact h0 (UInt8.toNat_inj.1 (by simpa using e))
       clear h0
       go_wp2
       go_ret3
       exact HNO.out HE.out _ HB.out
     ·have HE : Hid (takeB k 58 ((l.take 248).drop 16) = true) := by
       refine bytes_take k 58 _ (fun i hi => ?_) (fun t h1 h2 => ?_)
       ·rw [nmAt_drop, nmAt_take _ _ _ (by omega)]; exact HK.out i hi
       ·rw [getD_drop, getD_take _ _ _ (by omega)]; exact HJ.out _ (by omega) (by omega)
      have i7 : ¬ (j : Int) < 248 := by omega
      have HS2 : Hid ((hi' : Int) * 4294967296 + (lo : Int) = (sq : Int)) := by show _ = _; rw [HSEQ.out]; omega
      go_wp2
      go_ret3
      rw [HS2.out]
      exact HYES.out hr1 hr2 HE.out _ _ HO1.out HB.out
 ·by_cases k1 : (n : Int) < 1
  ·go_wp2
   go_ret3
   exact HNO.out (fun hh => hr ⟨hh.1, hh.2.1⟩) _ HB3.out
  ·have k2 : (48 : Int) < (n : Int) := by omega
   go_wp2
   go_ret3
   exact HNO.out (fun hh => hr ⟨hh.1, hh.2.1⟩) _ HB3.out
theorem rblocks_no (s : ByteArray) (w : World) (h : headB s.data.toList = false) :
  Calls Tryz.prog 209 #[.string s] w fun e w' => e = .returned (.tuple #[.int .u64 0, .slice none 0 0, .bool false]) /\ Below w.heap.size w w' := by
 by_cases h1 : s.size = 256
 ·have hl : s.data.toList.length = 256 := by rw [str_len]; exact h1
  by_cases hp : s.extract 0 4 = bs cdxt
  ·by_cases hq : s.extract 252 s.size = bs cdxe
   ·refine rblocks_form s _ w _ rfl hl hp hq (fun _ w' hb => ⟨rfl, hb⟩) ?_
    intro k1 k2 k3
    exfalso
    rw [Bool.eq_false_iff] at h
    rw [ext_to s _ rfl] at hp
    rw [ext_eq s _ rfl] at hq
    exact h ((headB_iff _).2 ⟨hl, bs_eq hp, bs_eq hq, k1, k2, k3⟩)
   ·exact rblocks_end s w h1 hp hq
  ·exact rblocks_begin s w h1 hp
 ·exact rblocks_size s w (by simp; omega)
theorem rblocks_yes (s : ByteArray) (w : World) (h : headB s.data.toList = true) :
  Calls Tryz.prog 209 #[.string s] w fun e w' => ∃ v, e = .returned (.tuple #[.int .u64 ((seqOf s.data.toList : Nat) : Int), v, .bool true]) /\ OwnI w.heap.size w' v (blocksOf s.data.toList) /\ Below w.heap.size w w' := by
 obtain ⟨h1, h2, h3, h4, h5, h6⟩ := (headB_iff _).1 h
 exact rblocks_form s _ w _ rfl h1 (by rw [ext_to s _ rfl, h2]) (by rw [ext_eq s _ rfl, h3]) (fun hn => absurd ⟨h4, h5, h6⟩ hn) (fun _ _ _ v w' ho hb => ⟨v, rfl, ho, hb⟩)
end Go.Proofs.YthambopnmhkeeaaGreat.Fr
/- Small facts that the texts of the document's own frames share: an append step of a region, noughts as a text, texts joined. -/
namespace Go.Proofs.YthambopnmhkeeaaGreat.Fr
open Go.RowKit
section
variable {P : Program}
theorem step_append_own {ops : Array Oper} {o : Oper} {a : Act} {w : World} {K : Act -> World -> Prop} {Q : Exit -> Act -> World -> Prop} {E : Prop} (hgd : o.guard = none) (s x : Operand) (t : TypeId)
  (ho : o.op = .call { callee := .builtin .append, args := #[s, x], argTypes := #[t, t] })
  (base : Nat) (e : TypeId) (i : TypeInfo) (z : Value) (size bytes : Nat) (ht : P.underlying t = some (.slice e)) (hi : P.info? e = some i) (hz : i.zero = some z)
  (hsize : i.size = size) (hby : i.bytes = bytes) (hzs : z.cells.size = size) (hsz : 0 < size)
  (v : Value) (n : Nat) (xs : List Value) (hs : a.eval s = v) (hown : w.ownsRow base e size v n xs)
  (ad : Addr) (m c : Nat) (news : List Value) (hx : a.eval x = .slice (some ad) m c) (hl : news.length = m * size) (hnews : ∀ j u, news[j]? = some u -> w.cell? (ad.add j) = some u) (h1 : ∀ u ∈ news, u.oneCell' = true)
  (h63 : n + m <= maxLen) (hbytes : (n + m) * bytes <= 140737488355328) (hbase : base <= w.heap.size)
  (h : ∀ v' w', w'.ownsRow base e size v' (n + m) (xs ++ news) -> w.grownBy w' v.ownBlock -> K (a.put o.dst v') w') :
  if Region.wanted o (yielded ops a.tmps) = true then Oper.wp P o a w K Q else E := by
 have hw : Region.wanted o (yielded ops a.tmps) = true := by simp [Region.wanted, hgd]
 rw [if_pos hw]
 exact wp_append_own w s x t ho base e i z size bytes ht hi hz hsize hby hzs hsz v n xs hs hown ad m c news hx hl hnews h1 h63 hbytes hbase (fun v' w' h2 h3 _ => h v' w' h2 h3)
end
theorem zero_text {B : Nat} {w : World} {g n : Nat} (h : w.ownsRow B 5 1 (.slice (some ⟨g, 0, none⟩) n n) n (List.replicate n (.int .u8 0))) :
  (convert 107 9 (.slice (some ⟨g, 0, none⟩) n n)).run Tryz.prog w = .ok (.string (bs (List.replicate n 0))) w := by
 have e : bs (List.replicate n 0) = strOfNums (List.replicate n 0) := by
  unfold bs strOfNums
  rw [List.map_replicate]; rfl
 rw [e]
 refine run_convert_bytes_arg w 107 5 Tryz.underlying107 Tryz.underlying5 g 0 n n (List.replicate n 0) (by simp) ?_ 9 Tryz.underlying9
 intro i hi
 rw [Nat.zero_add, World.ownsRow.cellAt h i (by omega)]
 simp [List.getD, hi]
theorem joinB_map_take (L : List (Int × ByteArray)) (k : Nat) (h : k < L.length) : joinB ((L.take (k + 1)).map (·.2)) = joinB ((L.take k).map (·.2)) ++ L[k].2.data.toList := by
 rw [List.take_succ_eq_append_getElem h, List.map_append]
 unfold joinB
 rw [List.flatMap_append]
 simp
theorem bs_grow {T : ByteArray} {L : List (Int × ByteArray)} {k : Nat} (h : k < L.length) (hT : T = bs (joinB ((L.take k).map (·.2)))) : T ++ L[k].2 = bs (joinB ((L.take (k + 1)).map (·.2))) := by
 rw [hT, joinB_map_take L k h, <- bs_append, bs_data]
end Go.Proofs.YthambopnmhkeeaaGreat.Fr
/- What the document's own head and Pack answer: the same. -/
set_option maxRecDepth 100000
namespace Go.Proofs.YthambopnmhkeeaaGreat.Fr
open Go.RowKit
set_option maxHeartbeats 2000000 in
theorem rbeg_any (seq : Nat) (L : List (Int × ByteArray)) (b off c : Nat) (w : World) (hseq : seq < 18446744073709551616) (h1 : 1 <= L.length) (h2 : L.length <= 48) (hw : ∀ x ∈ L, WrOk x) (hb : b < w.heap.size) (hcs : WritesAt w b off L) :
  Calls Tryz.prog 183 #[.int .u64 (seq : Int), .slice (some ⟨b, off, none⟩) L.length c] w fun e w' => e = .returned (.string (bs (headL seq L))) /\ Below w.heap.size w w' := by
 obtain ⟨i0, hi, hz0, hz1, hz2⟩ := info_parts Tryz.infoB
 have HZ2 := Lib.hid hz2; clear hz2
 have HC := Lib.hid hcs; clear hcs
 have HW := Lib.hid hw; clear hw
 obtain ⟨n, hn⟩ : ∃ n, L.length = n := ⟨_, rfl⟩
 rw [hn] at h1 h2 ⊢
 have HN := Lib.hid hn; clear hn
 obtain ⟨t1, z1, H1⟩ := fix_name (seq % 4294967296)
 obtain ⟨t2, z2, H2⟩ := fix_name (seq / 4294967296)
 obtain ⟨t3, z3, H3⟩ := fix_name n
 go_enter Tryz.func183, Tryz.ntmps183
 go_wp2_with fail
 refine (rfixed_to _ _ _ _ (by omega) (by omega) H1).mono ?_
 rintro e w2 ⟨rfl, hb2⟩
 have HB2 := Lib.hid hb2; clear hb2
 go_wp2_with fail
 refine (rfixed_to _ _ _ _ (by omega) (by omega) H2).mono ?_
 rintro e w3 ⟨rfl, hb3⟩
 have HB3 := Lib.hid hb3; clear hb3
 go_wp2_with fail
 refine (rfixed_to _ _ _ _ (by omega) (by omega) H3).mono ?_
 rintro e w4 ⟨rfl, hb4⟩
 have HB4 : Hid (Below w.heap.size w w4) := by
  have s2 := HB2.out.size; have s3 := HB3.out.size
  exact HB2.out.trans ((HB3.out.mono (by omega)).trans (hb4.mono (by omega)))
 clear hb4 HB2 HB3
 have HS : Hid (⟨#[67, 68, 88, 84]⟩ ++ t1 ++ t2 ++ t3 = bs (begL seq n [])) := by
  show ((bs cdxt ++ t1) ++ t2) ++ t3 = _
  rw [<- H1.out, <- H2.out, <- H3.out, bs_append, bs_append, bs_append]
  unfold begL numsL
  simp only [List.append_assoc, List.flatMap_nil, List.append_nil]
 go_wp2_with fail
 go_loopw [5, 6] (fun t i wr => ∃ k T, k <= n /\ i = .int .i64 ((k : Nat) : Int) /\ t = .string T /\ T.size <= 16 + 4 * k /\ 16 + 4 * k <= T.size /\ Hid (T = bs (begL seq n (L.take k))) /\ Hid (Below w.heap.size w wr)) (fun _ i _ => n - (intOf i).toNat)
 case atStart =>
  have e : (⟨#[67, 68, 88, 84]⟩ ++ t1 ++ t2 ++ t3 : ByteArray).size = 16 := by rw [HS.out, bs_len, begL_len]; rfl
  exact ⟨0, _, Nat.zero_le _, rfl, rfl, by omega, by omega, HS, HB4⟩
 case round =>
  clear HS HB4
  obtain ⟨k, T, hk, rfl, rfl, hT1, hT2, HT, HB⟩ := hrel
  have hbr := HB.out.size
  by_cases hlt : k < n
  ·have hkL : k < L.length := by rw [HN.out]; exact hlt
   obtain ⟨c0, c1⟩ := (HC.out.below HB.out hb) k hkL
   obtain ⟨x0, x1, _⟩ := HW.out L[k] (List.getElem_mem hkL)
   obtain ⟨t, z, HF⟩ := fix_name L[k].1.toNat
   have HT2 : Hid (T ++ t = bs (begL seq n (L.take (k + 1)))) := by
    show T ++ t = _
    rw [HT.out, <- HF.out, bs_append, begL_snoc seq n L k hkL]
   have z4 : 4 <= t.size := by rw [<- HF.out]; exact Nat.le_refl _
   generalize L[k] = p at *
   obtain ⟨pb, pd⟩ := p
   simp only at c0 c1 x0 x1 HF
   go_wp2_with fail
   refine (rfixed_to _ _ _ _ (by omega) (by omega) HF).mono ?_
   rintro e w5 ⟨rfl, hb5⟩
   have HB5 : Hid (Below w.heap.size w w5) := HB.out.trans (hb5.mono hbr)
   clear hb5
   go_wp2
   go_roundw
   case rel => exact ⟨k + 1, _, by omega, by go_num, rfl, by simp; omega, by simp; omega, HT2, HB5⟩
   case measure => simp [intOf]; omega
  ·have hkn : k = n := by omega
   subst hkn
   have HX : Hid (T ++ bs (List.replicate (232 - 4 * k) 0) = bs (headL seq L)) := by
    show _ = _
    rw [HT.out, bs_append, List.take_of_length_le (by rw [HN.out]; exact Nat.le_refl _)]
    unfold headL
    rw [HN.out, show 248 - (16 + 4 * k) = 232 - 4 * k by omega]
   have hzs : (bs (List.replicate (232 - 4 * k) 0)).size <= 232 := by rw [bs_len, List.length_replicate]; omega
   clear HT
   obtain ⟨m, hm⟩ : ∃ m, 232 - 4 * k = m := ⟨_, rfl⟩
   rw [hm] at HX hzs
   have hm2 : m <= 232 := by omega
   have hmT : 248 - (T.size : Int) = (m : Int) := by omega
   have HMT := Lib.hid hmT; clear hmT
   clear hm
   go_wp2_with (at_make; refine wpList_make_full _ rfl _ _ 107 rfl wr.heap.size 5 i0 (.int .u8 0) 1 Tryz.underlying107 hi hz0 hz1 _ _ _ _ m rfl rfl HMT.out HMT.out (by rw [HZ2.out]; omega) (by unfold maxLen; omega) (Nat.le_refl _) ?_)
   intro w1 hown hgrow
   rw [toList_madeCells_one] at hown
   have hconv := zero_text hown
   have HB1 : Hid (Below w.heap.size w w1) := HB.out.grown hgrow hbr (fun k h => by cases h)
   clear hown hgrow
   obtain ⟨Z, hZ⟩ : ∃ Z, bs (List.replicate m 0) = Z := ⟨_, rfl⟩
   rw [hZ] at HX hzs hconv
   clear hZ
   go_wp2
   go_ret
   exact ⟨by rw [<- HX.out]; rfl, HB1.out⟩
set_option maxHeartbeats 2000000 in
theorem rpack_many (seq : Nat) (ao : Option Addr) (n c : Nat) (w : World) (h : n = 0 \/ 48 < n) (hm : n <= 1000) :
  Calls Tryz.prog 144 #[.int .u64 (seq : Int), .slice ao n c] w fun e w' => e = .returned (.tuple #[.slice none 0 0, .int .i64 6]) /\ Below w.heap.size w w' := by
 rcases h with rfl | h
 ·go_enter Tryz.func144, Tryz.ntmps144
  go_wp2
  go_ret2
  exact ⟨rfl, Below.refl _ _⟩
 ·have h0 : ((n : Int) == 0) = false := beq_eq_false_iff_ne.2 (by omega)
  have h1 : (48 : Int) < (n : Int) := by omega
  go_enter Tryz.func144, Tryz.ntmps144
  go_wp2
  go_ret2
  exact ⟨rfl, Below.refl _ _⟩
set_option maxHeartbeats 2000000 in
theorem rpack_bad (seq : Nat) (L : List (Int × ByteArray)) (b off c : Nat) (w : World) (h1 : 1 <= L.length) (h2 : L.length <= 48) (hs : ∀ x ∈ L, x.2.size <= maxLen) (hcs : WritesAt w b off L) (hbad : chkL L ≠ 0) :
  Calls Tryz.prog 144 #[.int .u64 (seq : Int), .slice (some ⟨b, off, none⟩) L.length c] w fun e w' => e = .returned (.tuple #[.slice none 0 0, .int .i64 ((chkL L : Nat) : Int)]) /\ Below w.heap.size w w' := by
 have HC := Lib.hid hcs; clear hcs
 have HS := Lib.hid hs; clear hs
 have HBAD := Lib.hid hbad; clear hbad
 obtain ⟨n, hn⟩ : ∃ n, L.length = n := ⟨_, rfl⟩
 rw [hn] at h1 h2 ⊢
 have HN := Lib.hid hn; clear hn
 have h0 : ((n : Int) == 0) = false := beq_eq_false_iff_ne.2 (by omega)
 have h3 : ¬ (48 : Int) < (n : Int) := by omega
 go_enter Tryz.func144, Tryz.ntmps144
 go_wp2
 go_loop [6, 7] (fun t i => ∃ k T, k <= n /\ i = .int .i64 ((k : Nat) : Int) /\ t = .string T /\ T.size <= 256 * k /\ Hid (chkL L = chkL (L.drop k))) (fun _ i => n - (intOf i).toNat)
 case atStart => exact ⟨0, _, Nat.zero_le _, rfl, rfl, Nat.le_refl _, rfl⟩
 case round =>
  obtain ⟨k, T, hk, rfl, rfl, hT, HK⟩ := hrel
  by_cases hlt : k < n
  ·have hkL : k < L.length := by rw [HN.out]; exact hlt
   obtain ⟨c0, c1⟩ := HC.out k hkL
   have hsz := HS.out L[k] (List.getElem_mem hkL)
   unfold maxLen at hsz
   by_cases hx : chk1 L[k] = 0
   ·obtain ⟨x0, x1, x2⟩ := (chk1_ok _).1 hx
    have HK2 : Hid (chkL L = chkL (L.drop (k + 1))) := by show _ = _; rw [HK.out, chkL_drop L k hkL hx]
    clear hx
    generalize L[k] = p at *
    obtain ⟨pb, pd⟩ := p
    simp only at c0 c1 x0 x1 x2 hsz
    have hne : ((pd.size : Int) != 256) = false := by simp; omega
    have hge : ¬ (4096 : Int) <= pb := by omega
    have hlt0 : ¬ pb < 0 := by omega
    have hps : pd.size <= 256 := by omega
    clear x0 x1 x2
    go_wp2
    go_round
    case rel => exact ⟨k + 1, _, by omega, by go_num, rfl, by simp; omega, HK2⟩
    case measure => simp [intOf]; omega
   ·have HE := Lib.hid (show chkL L = chk1 L[k] by rw [HK.out, chkL_at L k hkL hx])
    generalize L[k] = p at *
    obtain ⟨pb, pd⟩ := p
    simp only at c0 c1 hsz
    unfold chk1 at hx HE
    simp only at hx HE
    by_cases hr : pb < 0 \/ 4096 <= pb
    ·rw [if_pos hr] at HE
     clear hx
     rcases hr with hr | hr
     ·go_wp2
      go_ret2
      exact ⟨by rw [HE.out]; rfl, Below.refl _ _⟩
     ·have hlt0 : ¬ pb < 0 := by omega
      go_wp2
      go_ret2
      exact ⟨by rw [HE.out]; rfl, Below.refl _ _⟩
    ·rw [if_neg hr] at hx HE
     have hge : ¬ (4096 : Int) <= pb := by omega
     have hlt0 : ¬ pb < 0 := by omega
     clear hr
     by_cases hz : pd.size ≠ 256
     ·rw [if_pos hz] at HE
      clear hx
      have hne : ((pd.size : Int) != 256) = true := by simp; omega
      clear hz
      go_wp2
      go_ret2
      exact ⟨by rw [HE.out]; rfl, Below.refl _ _⟩
     ·rw [if_neg hz] at hx; exact absurd rfl hx
  ·exfalso
   apply HBAD.out
   rw [HK.out, List.drop_of_length_le (by rw [HN.out]; omega)]; rfl
set_option maxHeartbeats 4000000 in
theorem rpack_yes (seq : Nat) (L : List (Int × ByteArray)) (b off c : Nat) (w : World) (hseq : seq < 18446744073709551616) (h1 : 1 <= L.length) (h2 : L.length <= 48) (hw : ∀ x ∈ L, WrOk x) (hb : b < w.heap.size) (hcs : WritesAt w b off L) :
  Calls Tryz.prog 144 #[.int .u64 (seq : Int), .slice (some ⟨b, off, none⟩) L.length c] w fun e w' => ∃ u, e = .returned (.tuple #[u, .int .i64 0]) /\ OwnS w.heap.size w' u (packL seq L) /\ Below w.heap.size w w' := by
 obtain ⟨i0, hi, hz0, hz1, hz2⟩ := info_parts Tryz.infoS
 have HZ2 := Lib.hid hz2; clear hz2
 have CB := Lib.hid (rbeg_any seq L b off c w hseq h1 h2 hw hb hcs)
 have hhl := headL_len seq L h2
 have HC := Lib.hid hcs; clear hcs
 have HW := Lib.hid hw; clear hw
 obtain ⟨n, hn⟩ : ∃ n, L.length = n := ⟨_, rfl⟩
 rw [hn] at h1 h2 CB ⊢
 have HN := Lib.hid hn; clear hn
 have HHL := Lib.hid hhl; clear hhl
 have h0 : ((n : Int) == 0) = false := beq_eq_false_iff_ne.2 (by omega)
 have h3 : ¬ (48 : Int) < (n : Int) := by omega
 go_enter Tryz.func144, Tryz.ntmps144
 go_wp2
 go_loop [6, 7] (fun t i => ∃ k T, k <= n /\ i = .int .i64 ((k : Nat) : Int) /\ t = .string T /\ T.size <= 256 * k /\ Hid (T = bs (joinB ((L.take k).map (·.2))))) (fun _ i => n - (intOf i).toNat)
 case atStart => exact ⟨0, _, Nat.zero_le _, rfl, rfl, Nat.le_refl _, rfl⟩
 case round =>
  obtain ⟨k, T, hk, rfl, rfl, hT, HT⟩ := hrel
  by_cases hlt : k < n
  ·have hkL : k < L.length := by rw [HN.out]; exact hlt
   obtain ⟨c0, c1⟩ := HC.out k hkL
   obtain ⟨x0, x1, x2⟩ := HW.out L[k] (List.getElem_mem hkL)
   have HT2 := Lib.hid (bs_grow hkL HT.out)
   generalize L[k] = p at *
   obtain ⟨pb, pd⟩ := p
   simp only at c0 c1 x0 x1 x2 HT2
   have hne : ((pd.size : Int) != 256) = false := by simp; omega
   have hge : ¬ (4096 : Int) <= pb := by omega
   have hlt0 : ¬ pb < 0 := by omega
   have hps : pd.size <= 256 := by omega
   clear x0 x1 x2
   go_wp2
   go_round
   case rel => exact ⟨k + 1, _, by omega, by go_num, rfl, by simp; omega, HT2⟩
   case measure => simp [intOf]; omega
  ·have hkn : k = n := by omega
   subst hkn
   have HT2 : Hid (T = bs (joinB (L.map (·.2)))) := by
    show T = _
    rw [HT.out, List.take_of_length_le (by rw [HN.out]; exact Nat.le_refl _)]
   clear HT
   have hXs : (bs (headL seq L)).size <= 248 := by rw [bs_len, HHL.out]; exact Nat.le_refl _
   obtain ⟨X, hX⟩ : ∃ X, bs (headL seq L) = X := ⟨_, rfl⟩
   rw [hX] at hXs CB
   have HX := Lib.hid hX; clear hX
   go_wp2_with fail
   refine CB.out.mono ?_
   rintro e w1 ⟨rfl, hb1⟩
   have HB1 := Lib.hid hb1; clear hb1 CB
   have CC := Lib.hid (rcrc_any (X ++ T) w1 (by simp; unfold maxLen; omega))
   have HJ : Hid ((X ++ T).data.toList = headL seq L ++ joinB (L.map (·.2))) := by
    show _ = _
    rw [<- HX.out, HT2.out, bs_append, data_bs]
   rw [HJ.out] at CC
   obtain ⟨t4, z4, H4⟩ := fix_name (crcL (headL seq L ++ joinB (L.map (·.2))))
   have hsum := crcL_lt (headL seq L ++ joinB (L.map (·.2)))
   have HTOP : Hid (X ++ t4 ++ ⟨#[67, 68, 88, 69]⟩ = bs (topL seq L)) := by
    show X ++ t4 ++ bs cdxe = _
    rw [<- HX.out, <- H4.out, bs_append, bs_append, List.append_assoc]; rfl
   generalize crcL (headL seq L ++ joinB (L.map (·.2))) = sm at *
   go_wp2_with fail
   refine CC.out.mono ?_
   rintro e w1' ⟨rfl, rfl⟩
   clear CC
   go_wp2_with fail
   refine (rfixed_to _ _ _ _ rfl hsum H4).mono ?_
   rintro e w2 ⟨rfl, hb2⟩
   have HB2 : Hid (Below w.heap.size w w2) := HB1.out.trans (hb2.mono HB1.out.size)
   clear hb2 HB1
   have hbr := HB2.out.size
   obtain ⟨Y, hY⟩ : ∃ Y, X ++ t4 ++ ⟨#[67, 68, 88, 69]⟩ = Y := ⟨_, rfl⟩
   rw [hY] at HTOP
   go_wp2_with fail
   have HO : Hid (OwnS w.heap.size (w2.alloc (.cells #[.string Y] 9)) (.slice (some ⟨w2.heap.size, 0, none⟩) 1 1) (Y :: (L.take 0).map (·.2))) :=
    World.ownsRow_lit w2 #[.string Y] 1 hbr (by unfold maxLen; omega) rfl
   have HBa : Hid (Below w.heap.size w (w2.alloc (.cells #[.string Y] 9))) := HB2.out.alloc hbr _
   clear HB2 hbr
   generalize w2.alloc (.cells #[.string Y] 9) = w6 at *
   generalize (.slice (some ⟨w2.heap.size, 0, none⟩) 1 1 : Value) = v6 at *
   go_loopw [9, 10] (fun fv i wr => ∃ j : Nat, j <= k /\ i = .int .i64 j /\ Hid (OwnS w.heap.size wr fv (Y :: (L.take j).map (·.2))) /\ Hid (Below w.heap.size w wr)) (fun _ i _ => k - (intOf i).toNat)
   case atStart => exact ⟨0, Nat.zero_le _, rfl, HO, HBa⟩
   case round =>
    clear HO HBa
    obtain ⟨j, hj, rfl, HO, HB⟩ := hrel
    have hbr := HB.out.size
    by_cases hlt : j < k
    ·have hkL : j < L.length := by rw [HN.out]; exact hlt
     obtain ⟨c0, c1⟩ := (HC.out.below HB.out hb) j hkL
     have HM := Lib.hid (map_snoc Y L j hkL)
     have hlen : (Y :: (L.take j).map (·.2)).length <= 49 := by simp; omega
     obtain ⟨M, hM⟩ : ∃ M, Y :: (L.take j).map (·.2) = M := ⟨_, rfl⟩
     rw [hM] at HO HM hlen
     clear hM
     generalize L[j] = p at *
     obtain ⟨pb, pd⟩ := p
     simp only at c0 c1 HM
     go_wp2_with (at_builtin; refine wpList_append_own _ rfl _ _ 47 rfl w.heap.size 9 i0 _ 1 16 Tryz.underlying47 hi hz0 hz1 HZ2.out rfl (by decide) _ _ _ rfl (HO.out.alloc _) _ 1 1 [.string pd] rfl rfl (one_cell (by simp)) one_one ?c3 ?c4 ?c5 ?_)
     case c3 => unfold maxLen; omega
     case c4 => omega
     case c5 => simp; omega
     intro v1 w1 hown hgrow _
     have HO1 : Hid (OwnS w.heap.size w1 v1 (Y :: (L.take (j + 1)).map (·.2))) := by
      show OwnS _ _ _ _
      rw [HM.out]; exact own_push hown
     have HB1 : Hid (Below w.heap.size w w1) := (HB.out.alloc hbr _).grown hgrow (by simp; omega) (fun q hq => (HO.out.lt q hq).1)
     clear hown hgrow
     go_wp2
     go_roundw
     case rel => exact ⟨j + 1, by omega, by go_num, HO1, HB1⟩
     case measure => simp [intOf]; omega
    ·have HO2 : Hid (OwnS w.heap.size wr u9 (packL seq L)) := by
      have := HO.out
      rw [List.take_of_length_le (by rw [HN.out]; omega), HTOP.out] at this
      exact this
     clear HO
     go_wp2
     go_ret2
     exact ⟨_, rfl, HO2.out, HB.out⟩
theorem rpack_any (seq : Nat) (L : List (Int × ByteArray)) (v : Value) (w : World) (hseq : seq < 18446744073709551616) (hl : L.length <= 1000) (hs : ∀ x ∈ L, x.2.size <= maxLen) (h : SlW w v L) :
  Calls Tryz.prog 144 #[.int .u64 (seq : Int), v] w fun e w' => ∃ u, e = .returned (.tuple #[u, .int .i64 (((pk seq L).2 : Nat) : Int)]) /\ OwnS w.heap.size w' u (pk seq L).1 /\ Below w.heap.size w w' := by
 unfold pk
 by_cases hm : L.length = 0 \/ 48 < L.length
 ·have e : chk L = 6 := by unfold chk; rw [if_pos hm]
  rw [e, if_neg (by omega)]
  obtain ⟨ao, c, rfl, _⟩ := h
  exact (rpack_many seq ao _ c w hm hl).mono fun e w' ⟨he, hb⟩ => ⟨_, he, OwnS.nil _ _, hb⟩
 ·have e : chk L = chkL L := by unfold chk; rw [if_neg hm]
  obtain ⟨b, off, c, rfl, _, hb, hc⟩ := h.here (by omega)
  rw [e]
  by_cases hx : chkL L = 0
  ·rw [if_pos hx]
   exact rpack_yes seq L b off c w hseq (by omega) (by omega) ((chkL_ok L).1 hx) hb hc
  ·rw [if_neg hx]
   exact (rpack_bad seq L b off c w (by omega) (by omega) hs hc hx).mono fun e w' ⟨he, hb⟩ => ⟨_, he, OwnS.nil _ _, hb⟩
end Go.Proofs.YthambopnmhkeeaaGreat.Fr
/- What Unpack answers: what was packed, or why there is nothing. -/
set_option maxRecDepth 100000
namespace Go.Proofs.YthambopnmhkeeaaGreat.Fr
open Go.RowKit
def filled (q : List UInt8) (n : Nat) (D : List ByteArray) (k : Nat) : List (Int × ByteArray) := (List.range n).map fun i => (((nmAt q (4 * i) : Nat) : Int), if i < k then D.getD i ⟨#[]⟩ else ⟨#[]⟩)
theorem filled_len (q : List UInt8) (n : Nat) (D : List ByteArray) (k : Nat) : (filled q n D k).length = n := by simp [filled]
theorem filled_zero (q : List UInt8) (n : Nat) (D : List ByteArray) : filled q n D 0 = takenL q n := by
 unfold filled takenL
 apply List.map_congr_left
 intro i _
 rw [if_neg (by omega)]
theorem filled_at (q : List UInt8) (n : Nat) (D : List ByteArray) (k i : Nat) (h : i < n) : (filled q n D k)[i]'(by rw [filled_len]; exact h) = (((nmAt q (4 * i) : Nat) : Int), if i < k then D.getD i ⟨#[]⟩ else ⟨#[]⟩) := by
 simp [filled]
theorem filled_set (q : List UInt8) (n : Nat) (D : List ByteArray) (k : Nat) (h : k < n) (hD : k < D.length) : (filled q n D k).set k (((filled q n D k)[k]'(by rw [filled_len]; exact h)).1, D[k]) = filled q n D (k + 1) := by
 apply List.ext_getElem
 ·simp [filled_len]
 ·intro i h1 h2
  rw [filled_len] at h2
  rw [filled_at q n D (k + 1) i h2, List.getElem_set]
  by_cases e : k = i
  ·subst e
   rw [if_pos rfl]
   refine Prod.ext ?_ ?_
   ·show ((filled q n D k)[k]'(by rw [filled_len]; exact h)).1 = _
    rw [filled_at q n D k k h]
   ·show D[k] = if k < k + 1 then D.getD k ⟨#[]⟩ else ⟨#[]⟩
    rw [if_pos (by omega)]; simp [hD]
  ·rw [if_neg e, filled_at q n D k i h2]
   by_cases hi : i < k
   ·rw [if_pos hi, if_pos (by omega)]
   ·rw [if_neg hi, if_neg (by omega)]
theorem OwnW.storeN {B : Nat} {w : World} {g c n : Nat} {L L' : List (Int × ByteArray)} (h : OwnW B w (.slice (some ⟨g, 0, none⟩) n c) L) (hn : L.length = n) (j : Nat) (hj : j < L.length) (s : ByteArray) (hL : L.set j (L[j].1, s) = L') :
  OwnW B (w.setCell ⟨g, j * 2 + 1, none⟩ (.string s)) (.slice (some ⟨g, 0, none⟩) n c) L' := by
 subst hn
 rw [<- hL]; exact h.storeD j hj s
theorem filled_all (l : List UInt8) (D : List ByteArray) (hn : nmAt l 12 <= D.length) (h48 : nmAt l 12 <= 48) : filled ((l.take 248).drop 16) (nmAt l 12) D (nmAt l 12) = (blocksOf l).zip (D.take (nmAt l 12)) := by
 apply List.ext_getElem
 ·rw [filled_len, List.length_zip, blocksOf_len, List.length_take]; omega
 ·intro i h1 h2
  rw [filled_len] at h1
  rw [filled_at _ _ _ _ _ h1, if_pos h1, List.getElem_zip]
  refine Prod.ext ?_ ?_
  ·simp only [blocksOf, List.getElem_map, List.getElem_range]
   rw [nmAt_drop, nmAt_take _ _ _ (by omega)]
  ·have : i < D.length := by omega
   simp [this]
set_option maxHeartbeats 1000000 in
theorem unpack_none (ao : Option Addr) (c : Nat) (w : World) :
  Calls Tryz.prog 206 #[.slice ao 0 c] w fun e w' => e = .returned (.tuple #[.int .u64 0, .slice none 0 0, .int .i64 7]) /\ Below w.heap.size w w' := by
 go_enter Tryz.func206, Tryz.ntmps206
 go_wp2
 go_ret3
 exact ⟨rfl, Below.refl _ _⟩
set_option maxHeartbeats 1000000 in
theorem unpack_nohead (s : ByteArray) (m b off c : Nat) (w : World) (h : headB s.data.toList = false) (hm : m <= 1000) (hc : w.cell? ⟨b, off, none⟩ = some (.string s)) :
  Calls Tryz.prog 206 #[.slice (some ⟨b, off, none⟩) (m + 1) c] w fun e w' => e = .returned (.tuple #[.int .u64 0, .slice none 0 0, .int .i64 7]) /\ Below w.heap.size w w' := by
 have C := Lib.hid (readHead_no s w h)
 clear h
 have h0 : (((m : Int) + 1) == 0) = false := beq_eq_false_iff_ne.2 (by omega)
 go_enter Tryz.func206, Tryz.ntmps206
 go_wp2_with fail
 refine C.out.mono ?_
 rintro e w1 ⟨rfl, hb1⟩
 have HB := Lib.hid hb1; clear hb1 C
 go_wp2
 go_ret3
 exact ⟨rfl, HB.out⟩
set_option maxHeartbeats 1000000 in
theorem unpack_few (s : ByteArray) (m b off c : Nat) (w : World) (h : headB s.data.toList = true) (hm : m <= 1000) (hn : m < nmAt s.data.toList 12) (hc : w.cell? ⟨b, off, none⟩ = some (.string s)) :
  Calls Tryz.prog 206 #[.slice (some ⟨b, off, none⟩) (m + 1) c] w fun e w' => e = .returned (.tuple #[.int .u64 0, .slice none 0 0, .int .i64 7]) /\ Below w.heap.size w w' := by
 have C := Lib.hid (readHead_yes s w h)
 clear h
 have h0 : (((m : Int) + 1) == 0) = false := beq_eq_false_iff_ne.2 (by omega)
 generalize seqOf s.data.toList = sq at *
 generalize nmAt s.data.toList 12 = n at *
 go_enter Tryz.func206, Tryz.ntmps206
 go_wp2_with fail
 refine C.out.mono ?_
 rintro e w1 ⟨v, rfl, ho, hb1⟩
 have HB := Lib.hid hb1; clear hb1 C
 obtain ⟨ao, c2, hv, _⟩ := ho.sl
 rw [takenL_len] at hv
 subst hv
 clear ho
 go_wp2
 go_ret3
 exact ⟨rfl, HB.out⟩
set_option maxHeartbeats 4000000 in
theorem unpack_head (s : ByteArray) (D : List ByteArray) (b off c : Nat) (w : World) (R : Ending -> World -> Prop) (h : headB s.data.toList = true) (hm : D.length <= 1000) (hn : nmAt s.data.toList 12 <= D.length) (hcap : D.length <= c) (hb : b < w.heap.size) (hD : ∀ d ∈ D, d.size <= maxLen)
  (hc : StrsAt w b off (s :: D))
  (hform : (¬ ∀ d ∈ D.take (nmAt s.data.toList 12), d.size = 256) -> ∀ w', Below w.heap.size w w' -> R (.returned (.tuple #[.int .u64 0, .slice none 0 0, .int .i64 7])) w')
  (hsum : (∀ d ∈ D.take (nmAt s.data.toList 12), d.size = 256) -> sumB s D = false -> ∀ w', Below w.heap.size w w' -> R (.returned (.tuple #[.int .u64 0, .slice none 0 0, .int .i64 8])) w')
  (hok : (∀ d ∈ D.take (nmAt s.data.toList 12), d.size = 256) -> sumB s D = true -> ∀ v w', OwnW w.heap.size w' v ((blocksOf s.data.toList).zip (D.take (nmAt s.data.toList 12))) -> Below w.heap.size w w' -> R (.returned (.tuple #[.int .u64 ((seqOf s.data.toList : Nat) : Int), v, .int .i64 0])) w') :
  Calls Tryz.prog 206 #[.slice (some ⟨b, off, none⟩) (D.length + 1) (c + 1)] w R := by
 obtain ⟨k1, k2, k3, k4, k5, k6⟩ := (headB_iff _).1 h
 have hsz : s.size = 256 := by rw [<- str_len, k1]
 have C := Lib.hid (readHead_yes s w h)
 have HFA := Lib.hid (filled_all s.data.toList D hn k5)
 rw [<- filled_zero _ _ D] at C
 have hc0 := hc 0 (by simp)
 simp only [Nat.add_zero, List.getElem_cons_zero] at hc0
 have HC := Lib.hid hc.tail
 have HCC := Lib.hid hc
 have HF := Lib.hid hform
 have HS := Lib.hid hsum
 have HO := Lib.hid hok
 have HDD := Lib.hid hD
 have h248 := nmAt_lt s.data.toList 248
 obtain ⟨T1, hT1⟩ : ∃ T, s.extract 248 s.size = T := ⟨_, rfl⟩
 have hT1' : s.extract 248 256 = T1 := by rw [<- hT1, hsz]
 have F1 : Hid (∀ W, ∃ T2, Calls Tryz.prog 204 #[.string T1] W fun e w' => e = .returned (.tuple #[.int .u32 ((nmAt s.data.toList 248 : Nat) : Int), .string T2, .bool true]) /\ Below W.heap.size W w') := fun W =>
  ⟨_, toFixed_at W (by rw [<- hT1, <- bs_data s, bs_ext, bs_len, data_bs, List.take_of_length_le (Nat.le_refl _)]) rfl (by omega) (by omega)⟩
 have CS : Hid (∀ W, Below w.heap.size w W -> Calls Tryz.prog 177 #[.slice (some ⟨b, off, none⟩) (nmAt s.data.toList 12 + 1) (c + 1)] W fun e w' => e = .returned (.int .u32 ((crcL (s.data.toList.take 248 ++ joinB (D.take (nmAt s.data.toList 12))) : Nat) : Int)) /\ Below W.heap.size W w') := by
  intro W hW
  have e : (D.take (nmAt s.data.toList 12)).length = nmAt s.data.toList 12 := by rw [List.length_take]; omega
  have := sum_any s (D.take (nmAt s.data.toList 12)) b off c W (by omega) (by omega) (by omega) (by omega) (fun d hd => HDD.out d (List.mem_of_mem_take hd)) (Nat.lt_of_lt_of_le hb hW.size) (fun j hj => by
   have hj' : j < (s :: D).length := by simp at hj ⊢; omega
   rw [(hc.below hW hb) j hj']
   cases j with
   | zero => rfl
   | succ j => simp)
  rw [e] at this
  exact this
 have hcl := crcL_lt (s.data.toList.take 248 ++ joinB (D.take (nmAt s.data.toList 12)))
 have HSB : Hid (sumB s D = (nmAt s.data.toList 248 == crcL (s.data.toList.take 248 ++ joinB (D.take (nmAt s.data.toList 12))))) := rfl
 clear hD hc h k1 k2 k3 k6 hform hsum hok
 generalize crcL (s.data.toList.take 248 ++ joinB (D.take (nmAt s.data.toList 12))) = sm at *
 generalize seqOf s.data.toList = sq at *
 generalize nmAt s.data.toList 248 = told at *
 generalize (s.data.toList.take 248).drop 16 = q at *
 generalize blocksOf s.data.toList = bl at *
 generalize nmAt s.data.toList 12 = n at *
 obtain ⟨m, hmm⟩ : ∃ m, D.length = m := ⟨_, rfl⟩
 rw [hmm] at hm hn hcap ⊢
 have HM := Lib.hid hmm; clear hmm
 have h0 : (((m : Int) + 1) == 0) = false := beq_eq_false_iff_ne.2 (by omega)
 have h1 : ¬ ((m : Int) + 1 <= (n : Int)) := by omega
 go_enter Tryz.func206, Tryz.ntmps206
 go_wp2_with fail
 refine C.out.mono ?_
 rintro e w1 ⟨v, rfl, ho, hb1⟩
 have HB1 := Lib.hid hb1
 obtain ⟨g, c2, hv, hc2, hg1, hg2, hst, hfr⟩ := ho.here (by rw [filled_len]; omega)
 rw [filled_len] at hv hc2
 subst hv
 have HO1 := Lib.hid ho
 clear ho hb1 C hst hfr
 go_wp2_with fail
 go_loopw [34] (fun i wr => ∃ k : Nat, k <= n /\ i = .int .i64 k /\ Hid (∀ d ∈ D.take k, d.size = 256) /\ Hid (OwnW w.heap.size wr (.slice (some ⟨g, 0, none⟩) n c2) (filled q n D k)) /\ Hid (Below w.heap.size w wr)) (fun i _ => n - (intOf i).toNat)
 case atStart => exact ⟨0, Nat.zero_le _, rfl, (fun d hd => by simp at hd), HO1, HB1⟩
 case round =>
  clear HO1 HB1
  obtain ⟨k, hk, rfl, HK, HOK, HB⟩ := hrel
  by_cases hlt : k < n
  ·have hkD : k < D.length := by rw [HM.out]; omega
   have hst := HOK.out.here (by rw [filled_len]; omega)
   obtain ⟨g', c3, hv, _, _, hgl, hst, hfr⟩ := hst
   rw [filled_len] at hv
   obtain ⟨rfl, rfl⟩ : g = g' /\ c2 = c3 := by simpa using hv
   have hf1 := hfr (k * 2 + 1)
   obtain ⟨d0, d1⟩ := hst k (by rw [filled_len]; exact hlt)
   rw [Nat.zero_add] at d0 d1
   rw [filled_at _ _ _ _ _ hlt, if_neg (by omega)] at d1
   have hsrc := (HC.out.below HB.out hb) k hkD
   have HST : Hid (∀ W, OwnW w.heap.size W (.slice (some ⟨g, 0, none⟩) n c2) (filled q n D k) -> OwnW w.heap.size (W.setCell ⟨g, k * 2 + 1, none⟩ (.string D[k])) (.slice (some ⟨g, 0, none⟩) n c2) (filled q n D (k + 1))) := by
    intro W hW
    exact hW.storeN (filled_len ..) k (by rw [filled_len]; exact hlt) D[k] (filled_set q n D k hlt hkD)
   have hdz := HDD.out D[k] (List.getElem_mem hkD)
   unfold maxLen at hdz
   have HTK : Hid (D.take (k + 1) = D.take k ++ [D[k]]) := List.take_succ_eq_append_getElem hkD
   have HMEM : Hid (D[k] ∈ D.take n) := by
    rw [List.mem_take_iff_getElem]
    exact ⟨k, by omega, rfl⟩
   clear hst hfr hv d0
   generalize D[k] = d at *
   have hsum1 : off + 1 + k = off + (k + 1) := by omega
   rw [hsum1] at hsrc
   clear hsum1
   have i2 : (k : Int) + 1 < (m : Int) + 1 := by omega
   by_cases hd : d.size = 256
   ·have HK2 : Hid (∀ d ∈ D.take (k + 1), d.size = 256) := by
     intro x hx
     rw [HTK.out] at hx
     rcases List.mem_append.1 hx with hx | hx
     ·exact HK.out x hx
     ·simp at hx; rw [hx]; exact hd
    have hne : ((d.size : Int) != 256) = false := by simp; omega
    clear hd
    go_wp2
    go_roundw
    case rel => exact ⟨k + 1, by omega, by go_num, HK2, HST.out _ HOK.out, HB.out.setCell hg1 _⟩
    case measure => simp [intOf]; omega
   ·have HNO : Hid (¬ ∀ d ∈ D.take n, d.size = 256) := fun hh => hd (hh _ HMEM.out)
    have hne : ((d.size : Int) != 256) = true := by simp; omega
    clear hd
    go_wp2
    go_ret3
    exact HF.out HNO.out _ (HB.out.setCell hg1 _)
  ·have hkn : k = n := by omega
   subst hkn
   obtain ⟨T2, hF⟩ := F1.out wr
   have HF1 := Lib.hid hF; clear hF F1
   have hc0' := (HB.out.cell (p := ⟨b, off, none⟩) hb).trans hc0
   go_wp2_with fail
   refine HF1.out.mono ?_
   rintro e w2 ⟨rfl, hb2⟩
   have HB2 := Lib.hid (HB.out.trans (hb2.mono HB.out.size))
   have HO2 : Hid (OwnW w.heap.size w2 (.slice (some ⟨g, 0, none⟩) k c2) (bl.zip (D.take k))) := by
    show OwnW _ _ _ _
    rw [<- HFA.out]; exact HOK.out.below hb2
   clear hb2 HF1 HOK HB hc0'
   go_wp2_with fail
   refine (CS.out _ HB2.out).mono ?_
   rintro e w3 ⟨rfl, hb3⟩
   have HB3 := Lib.hid (HB2.out.trans (hb3.mono HB2.out.size))
   have HO3 := Lib.hid (HO2.out.below hb3)
   clear hb3 CS HO2
   by_cases ht : told = sm
   ·have HT : Hid (sumB s D = true) := by show _ = _; rw [HSB.out]; simpa using ht
    have hne : ((told : Int) != (sm : Int)) = false := by simp; omega
    clear ht
    go_wp2
    go_ret3
    exact HO.out HK.out HT.out _ _ HO3.out HB3.out
   ·have HT : Hid (sumB s D = false) := by show _ = _; rw [HSB.out]; simpa using ht
    have hne : ((told : Int) != (sm : Int)) = true := by simp; omega
    clear ht
    go_wp2
    go_ret3
    exact HS.out HK.out HT.out _ HB3.out
theorem unpack_any (L : List ByteArray) (v : Value) (w : World) (hl : L.length <= 1000) (hs : ∀ d ∈ L, d.size <= maxLen) (h : SlS w v L) :
  Calls Tryz.prog 206 #[v] w fun e w' => ∃ u, e = .returned (.tuple #[.int .u64 (((unp L).1 : Nat) : Int), u, .int .i64 (((unp L).2.2 : Nat) : Int)]) /\ OwnW w.heap.size w' u (unp L).2.1 /\ Below w.heap.size w w' := by
 cases L with
 | nil =>
  obtain ⟨ao, c, rfl, _⟩ := h
  exact (unpack_none ao c w).mono fun e w' ⟨he, hb⟩ => ⟨_, he, OwnW.nil _ _, hb⟩
 | cons s D =>
  obtain ⟨b, off, c, rfl, hcap, hb, hc⟩ := h.here (by simp)
  obtain ⟨c', rfl⟩ : ∃ c', c = c' + 1 := ⟨c - 1, by simp at hcap; omega⟩
  have hc0 := hc 0 (by simp)
  simp only [Nat.add_zero, List.getElem_cons_zero] at hc0
  have hl' : D.length <= 1000 := by simp at hl; omega
  rw [unp_cons]
  cases hh : headB s.data.toList with
  | false =>
   have hf : ¬ formB s D = true := fun hf => by rw [((formB_iff s D).1 hf).1] at hh; cases hh
   rw [if_neg hf]
   exact (unpack_nohead s D.length b off (c' + 1) w hh hl' hc0).mono fun e w' ⟨he, hb⟩ => ⟨_, he, OwnW.nil _ _, hb⟩
  | true =>
   by_cases hn : nmAt s.data.toList 12 <= D.length
   ·refine unpack_head s D b off c' w _ hh hl' hn (by simp at hcap; omega) hb (fun d hd => hs d (List.mem_cons_of_mem _ hd)) hc ?_ ?_ ?_
    ·intro hno w' hb
     have hf : ¬ formB s D = true := fun hf => hno ((formB_iff s D).1 hf).2.2
     rw [if_neg hf]
     exact ⟨_, rfl, OwnW.nil _ _, hb⟩
    ·intro hall hsm w' hb
     rw [if_pos ((formB_iff s D).2 ⟨hh, hn, hall⟩), if_neg (by rw [hsm]; decide)]
     exact ⟨_, rfl, OwnW.nil _ _, hb⟩
    ·intro hall hsm v w' ho hb
     rw [if_pos ((formB_iff s D).2 ⟨hh, hn, hall⟩), if_pos hsm]
     exact ⟨_, rfl, ho, hb⟩
   ·have hf : ¬ formB s D = true := fun hf => hn ((formB_iff s D).1 hf).2.1
    rw [if_neg hf]
    exact (unpack_few s D.length b off (c' + 1) w hh hl' (by omega) hc0).mono fun e w' ⟨he, hb⟩ => ⟨_, he, OwnW.nil _ _, hb⟩
end Go.Proofs.YthambopnmhkeeaaGreat.Fr

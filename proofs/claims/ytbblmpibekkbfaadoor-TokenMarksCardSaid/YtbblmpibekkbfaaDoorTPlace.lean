/- Runes: the contract of the program's iterator by numbers; the places of a text; what the program's words keep on their way. -/
import Derived.Test.YtbblmpibekkbfaaDoorUIter
import Derived.Test.YtbblmpibekkbfaaDoorTRange
import Derived.Test.YtbblmpibekkbfaaDoorTSmall
namespace Go.Proofs.YtbblmpibekkbfaaDoor
open Go.RowKit Go.Shelf
attribute [local go_sem] Oper.semAt_some

/-- The place of the k-th piece. -/
def plc (L : List UInt8) : Nat → Nat
  | 0 => 0
  | k + 1 => plc L k + (rn L (plc L k)).2
theorem cut_plc (L : List UInt8) : ∀ k, cut (L.drop (plc L k)) = (cut L).drop k ∧ (k ≤ (cut L).length → plc L k ≤ L.length)
  | 0 => ⟨rfl, fun _ => Nat.zero_le _⟩
  | k + 1 => by
    obtain ⟨h1, h2⟩ := cut_plc L k
    by_cases hp : plc L k < L.length
    · have hc := cut_at hp
      rw [h1] at hc
      have hr := rn_step hp
      refine ⟨?_, fun _ => hr.2⟩
      show cut (L.drop (plc L k + _)) = _
      rw [show (cut L).drop (k + 1) = ((cut L).drop k).drop 1 by rw [List.drop_drop], hc]
      rfl
    · have hn : cut (L.drop (plc L k)) = [] := by rw [List.drop_of_length_le (by omega)]; exact cut_nil
      rw [h1] at hn
      have hl : (cut L).length ≤ k := List.drop_eq_nil_iff.1 hn
      refine ⟨?_, fun h => absurd h (by omega)⟩
      rw [List.drop_of_length_le (by show _ ≤ plc L k + _; omega), List.drop_of_length_le (by omega)]
      exact cut_nil
theorem plc_lt {L : List UInt8} {k : Nat} (h : k < (cut L).length) : plc L k < L.length := by
  obtain ⟨h1, _⟩ := cut_plc L k
  by_cases hp : plc L k < L.length
  · exact hp
  · rw [List.drop_of_length_le (l := L) (by omega), cut_nil] at h1
    have := List.drop_eq_nil_iff.1 h1.symm
    omega
theorem plc_end (L : List UInt8) : plc L (cut L).length = L.length := by
  obtain ⟨h1, h2⟩ := cut_plc L (cut L).length
  have h2 := h2 (Nat.le_refl _)
  rw [List.drop_of_length_le (l := cut L) (Nat.le_refl _)] at h1
  by_cases hp : plc L (cut L).length < L.length
  · rw [cut_at hp] at h1; cases h1
  · omega
theorem cut_item {L : List UInt8} {k : Nat} (h : k < (cut L).length) : (cut L)[k] = pcL L (plc L k) := by
  have hc := cut_at (plc_lt h)
  rw [(cut_plc L k).1, List.drop_eq_getElem_cons h] at hc
  exact (List.cons.inj hc).1
def rEnc (s : ByteArray) (k : Nat) : Array Value := #[.int .i64 ((plc s.data.toList k : Nat) : Int), .int .i64 (rn s.data.toList (plc s.data.toList k)).1]

set_option maxRecDepth 100000 in
set_option maxHeartbeats 2000000 in
theorem runes1_all (Bs : Nat) (s : ByteArray) (hs : s.size ≤ 100000) (wb w : World) (hT : Tabs wb) (hwb : Below wb.heap.size wb w) (hBs : w.cell? ⟨Bs, 0, none⟩ = some (.string s)) :
    SeqAll (fun o => o.isCells = false) Tryd.prog 38 #[.pointer (some ⟨Bs, 0, none⟩)] (rEnc s) (KpU wb.heap.size Bs s) (cut s.data.toList).length w := by
  intro l J W hW hAb hY hj0
  refine (callsIn_wide (n := 5)).1 ?_
  have HBs : Hid (W.cell? ⟨Bs, 0, none⟩ = some (.string s)) := (hW.cell (ulive hBs)).trans hBs
  have HW : Hid (Below wb.heap.size wb W) := hwb.trans (hW.mono hwb.size)
  clear hW hBs hwb
  refine callsIn_of_wp Tryd.func38 rfl trivial ?_ rfl
  simp only [Tryd.ntmps38, List.size_toArray, List.length_cons, List.length_nil, Nat.reduceAdd, Nat.reduceSub, Array.replicate_succ, Array.replicate_zero, List.push_toArray, List.append_toArray, List.nil_append, List.cons_append]
  have HY := Lib.hid hY
  have HT := Lib.hid hT
  have HA := Lib.hid hAb
  have hlen := data_len s
  have HP : Hid (∀ p, utxt (s.data.toList.drop p) = s.extract p s.size) := fun p => (utxt_drop s p).symm
  have HK : Hid (∀ k, k < (cut s.data.toList).length → plc s.data.toList k < s.size) := fun k h => by have := plc_lt h; omega
  have HKE : Hid (∀ k, k ≤ (cut s.data.toList).length → ¬ k < (cut s.data.toList).length → k = (cut s.data.toList).length ∧ ¬ ((plc s.data.toList k : Nat) : Int) < (s.size : Int)) := fun k h1 h2 => by
    obtain rfl : k = (cut s.data.toList).length := by omega
    rw [plc_end, hlen]
    exact ⟨rfl, by omega⟩
  have HPL : Hid (∀ k, k < (cut s.data.toList).length → plc s.data.toList (k + 1) = plc s.data.toList k + (rn s.data.toList (plc s.data.toList k)).2) := fun k _ => rfl
  have HRS : Hid (∀ p, p < s.size → 1 ≤ (rn s.data.toList p).2 ∧ p + (rn s.data.toList p).2 ≤ s.size) := fun p h => by rw [← hlen]; exact rn_step (by omega)
  obtain ⟨K, hK⟩ : ∃ K, (cut s.data.toList).length = K := ⟨_, rfl⟩
  rw [hK] at HY HK HKE HPL ⊢
  clear hY hAb hT hK
  gi_wp2
  gi_loopw [3] (fun i wr => ∃ k : Nat, k ≤ K ∧ i = .int .i64 ((plc s.data.toList k : Nat) : Int) ∧ Hid (J k wr) ∧ Hid (Below wb.heap.size wb wr) ∧ wr.cell? ⟨Bs, 0, none⟩ = some (.string s))
    (fun i _ => s.size - (intOf i).toNat)
  case atStart => exact ⟨0, Nat.zero_le _, rfl, hj0, HW.out, HBs.out⟩
  case round =>
    obtain ⟨k, hk, rfl, HJ, HB, hcb⟩ := hrel
    have HCB := Lib.hid hcb
    by_cases hlt : k < K
    · have hpl := HK.out k hlt
      have hp1 := HPL.out k hlt
      have hN := Lib.hid (show rEnc s k = #[.int .i64 ((plc s.data.toList k : Nat) : Int), .int .i64 (rn s.data.toList (plc s.data.toList k)).1] from rfl)
      have HP1 := Lib.hid hp1
      clear hp1
      generalize plc s.data.toList k = p at *
      have CR : Hid (∀ W, Tabs W → Calls Tryd.prog 39 #[.string (s.extract p s.size)] W fun e w' => e = .returned (.tuple #[.int .i64 (rn s.data.toList p).1, .int .i64 ((rn s.data.toList p).2 : Nat)]) ∧ Below W.heap.size W w') := fun W hT => by
        have := prune_any (s.extract p s.size) W hT (by rw [← HP.out p, utxt_size, List.length_drop]; omega)
        rw [← HP.out p, utxt_data] at this
        rw [← HP.out p]
        exact this
      have hst := HRS.out p hpl
      have HTr := Lib.hid (HT.out.below HB.out)
      have i0 : (0 : Int) ≤ (p : Int) := by omega
      have i1 : (p : Int) ≤ (s.size : Int) := by omega
      have i2 : (p : Int) < (s.size : Int) := by omega
      obtain ⟨X, hX⟩ : ∃ X, s.extract p s.size = X := ⟨_, rfl⟩
      rw [hX] at CR
      generalize rn s.data.toList p = R at *
      obtain ⟨r, m⟩ := R
      dsimp only at *
      gi_wp2_with (refine ⟨trivial, ?_⟩; gi_at_call 39; refine (callsIn_wide.2 (CR.out _ HTr.out)).mono ?_; rintro e w2 ⟨rfl, hb2⟩)
      have HB2 : Hid (Below wb.heap.size wb w2) := HB.out.trans (hb2.mono HB.out.size)
      have HJ2 : Hid (J k w2) := HA.out.below HJ.out hb2
      have HCB2 : Hid (w2.cell? ⟨Bs, 0, none⟩ = some (.string s)) := (hb2.cell (ulive HCB.out)).trans HCB.out
      clear hb2 hcb
      have hy0 := HY.out k w2 hlt HJ2.out
      rw [hN.out] at hy0
      obtain ⟨fn, tmps, assign, body, hy, hR⟩ := hy0
      have HR := Lib.hid hR
      clear hR
      rw [hy]
      gi_wp2
      refine RoundIn.mono (round_any rfl HR.out) ?_
      rintro e W3 ⟨rfl, hJ3, hk3, hf3⟩
      have HJ3 := Lib.hid hJ3
      have HB3 : Hid (Below wb.heap.size wb W3) := HB2.out.trans hk3.1
      have HCB3 := Lib.hid (hk3.2 HCB2.out)
      clear hJ3 hk3 hf3
      gi_wp2
      go_roundw
      case rel => exact ⟨k + 1, by omega, by rw [HP1.out]; first | rfl | go_num, HJ3.out, HB3.out, HCB3.out⟩
      case measure => simp [intOf]; omega
    · obtain ⟨h1, i2⟩ := HKE.out k hk hlt
      have HF := Lib.hid (show J K wr by rw [← h1]; exact HJ.out)
      clear h1
      gi_wp2
      go_end0
      exact ⟨⟨_, rfl⟩, HF.out⟩

/-- What the words so far are: closed words, the open one, is one open?, its place. -/
def stL (L : List UInt8) (k : Nat) : List (List It) × Bool := ((cut L).take k).foldl gStep ([], false)
theorem stL_step {L : List UInt8} {k : Nat} (h : k < (cut L).length) : stL L (k + 1) = gStep (stL L k) (pcL L (plc L k)) := by
  unfold stL
  rw [List.take_succ_eq_append_getElem h, List.foldl_append, cut_item h]
  rfl
structure MtW (L : List UInt8) (k : Nat) (gs : List (List It)) (g : List It) (b : Bool) (st : Nat) : Prop where
  is : stL L k = (if b = true then gs ++ [g] else gs, b)
  lo : st ≤ plc L k
  at_ : b = true → g.flatMap (·.2) = (L.drop st).take (plc L k - st)
theorem mt_zero (L : List UInt8) : MtW L 0 [] [] false 0 := ⟨rfl, Nat.le_refl _, fun h => by cases h⟩
theorem mt_in {L : List UInt8} {k : Nat} {gs : List (List It)} {g : List It} {st : Nat} (h : MtW L k gs g true st) (hk : k < (cut L).length) (hw : isW (pcL L (plc L k)) = true) : MtW L (k + 1) gs (g ++ [pcL L (plc L k)]) true st := by
  refine ⟨?_, by have := h.lo; show _ ≤ plc L k + _; omega, fun _ => ?_⟩
  · rw [stL_step hk, h.is, if_pos rfl, if_pos rfl]
    unfold gStep
    rw [if_pos hw]
    dsimp only
    rw [if_pos rfl, putLast_snoc]
  · have h1 := h.at_ rfl
    have h2 := h.lo
    rw [List.flatMap_append, h1, List.flatMap_singleton]
    show _ ++ (L.drop (plc L k)).take (rn L (plc L k)).2 = (L.drop st).take (plc L k + (rn L (plc L k)).2 - st)
    rw [show plc L k + (rn L (plc L k)).2 - st = (plc L k - st) + (rn L (plc L k)).2 by omega, List.take_add, List.drop_drop, show st + (plc L k - st) = plc L k by omega]
theorem mt_new {L : List UInt8} {k : Nat} {gs : List (List It)} {g : List It} {st : Nat} (h : MtW L k gs g false st) (hk : k < (cut L).length) (hw : isW (pcL L (plc L k)) = true) : MtW L (k + 1) gs [pcL L (plc L k)] true (plc L k) := by
  refine ⟨?_, by show _ ≤ plc L k + _; omega, fun _ => ?_⟩
  · rw [stL_step hk, h.is, if_neg (by simp), if_pos rfl]
    unfold gStep
    rw [if_pos hw]
    rfl
  · rw [List.flatMap_singleton]
    show (L.drop (plc L k)).take (rn L (plc L k)).2 = (L.drop (plc L k)).take (plc L k + (rn L (plc L k)).2 - plc L k)
    rw [Nat.add_sub_cancel_left]
theorem mt_out {L : List UInt8} {k : Nat} {gs : List (List It)} {g : List It} {st : Nat} (h : MtW L k gs g false st) (hk : k < (cut L).length) (hw : isW (pcL L (plc L k)) = false) : MtW L (k + 1) gs g false st := by
  refine ⟨?_, by have := h.lo; show _ ≤ plc L k + _; omega, fun h => by cases h⟩
  rw [stL_step hk, h.is, if_neg (by simp)]
  unfold gStep
  rw [if_neg (by rw [hw]; simp)]
theorem mt_close {L : List UInt8} {k : Nat} {gs : List (List It)} {g : List It} {st : Nat} (h : MtW L k gs g true st) (hk : k < (cut L).length) (hw : isW (pcL L (plc L k)) = false) : MtW L (k + 1) (gs ++ [g]) g false st := by
  refine ⟨?_, by have := h.lo; show _ ≤ plc L k + _; omega, fun h => by cases h⟩
  rw [stL_step hk, h.is, if_pos rfl, if_neg (by simp)]
  unfold gStep
  rw [if_neg (by rw [hw]; simp)]
theorem grps_from (L : List UInt8) (k : Nat) : grps (cut L) = (((cut L).drop k).foldl gStep (stL L k)).1 := by
  unfold stL grps
  rw [← List.foldl_append, List.take_append_drop]
/-- A word that is closed is the next one. -/
theorem word_closed {L : List UInt8} {k : Nat} {gs : List (List It)} {g : List It} {st : Nat} (h : MtW L k gs g true st) (hk : k < (cut L).length) (hw : isW (pcL L (plc L k)) = false) : ∃ r, wordsL L = gs.map flatG ++ flatG g :: r := by
  have h1 := (mt_close h hk hw).is
  rw [if_neg (by simp)] at h1
  unfold wordsL
  rw [grps_from L (k + 1), h1, fold_apart]
  refine ⟨(grps ((cut L).drop (k + 1))).map flatG, ?_⟩
  rw [List.map_append, List.map_append, List.append_assoc]
  rfl
theorem words_done {L : List UInt8} {gs : List (List It)} {g : List It} {b : Bool} {st : Nat} (h : MtW L (cut L).length gs g b st) : wordsL L = if b = true then gs.map flatG ++ [flatG g] else gs.map flatG := by
  unfold wordsL
  rw [grps_from L (cut L).length, List.drop_of_length_le (Nat.le_refl _), h.is]
  cases b with
  | true => rw [if_pos rfl, if_pos rfl]; exact List.map_append
  | false => rw [if_neg (by simp), if_neg (by simp)]; rfl
theorem word_extract {s : ByteArray} {k : Nat} {gs : List (List It)} {g : List It} {st : Nat} (h : MtW s.data.toList k gs g true st) : s.extract st (plc s.data.toList k) = flatG g := by
  unfold flatG
  rw [h.at_ rfl]
  apply ByteArray.ext
  apply Array.ext'
  show _ = ((s.data.toList.drop st).take _).toArray.toList
  simp [ByteArray.data_extract]
theorem gs_len {L : List UInt8} {k : Nat} {gs : List (List It)} {g : List It} {b : Bool} {st : Nat} (h : MtW L k gs g b st) : gs.length ≤ L.length := by
  have h1 := (gStep_flatten ((cut L).take k) ([], false)).2
  have h2 := h.is
  unfold stL at h2
  rw [h2] at h1
  have h3 := cut_len L
  rw [List.length_take] at h1
  cases b with
  | true => rw [if_pos rfl, List.length_append] at h1; simp at h1; omega
  | false => rw [if_neg (by simp)] at h1; simp at h1; omega
end Go.Proofs.YtbblmpibekkbfaaDoor

/- Numbers and texts read: what ToVar and ToText answer, and the document's own: the same. -/
import Derived.Test.YtjcajeilhcjneaaZWFix
import Derived.Deep.RegionWith
import Derived.IntWalk
import Derived.Test.YtjcajeilhcjneaaZBase
import Derived.Test.YtjcajeilhcjneaaZWMath
import Derived.Deep.QuietTactic

set_option maxRecDepth 100000
namespace Go.Proofs.Ytjcajeilhcjneaa.Fr
open Go.RowKit
theorem ext_drop (s : ByteArray) (n : Nat) : s.extract n s.size = bs (s.data.toList.drop n) := by
 apply ByteArray.ext
 rw [ByteArray.data_extract]
 unfold bs
 apply Array.ext'
 rw [Array.toList_extract]
 simp only [List.extract_eq_take_drop]
 exact List.take_of_length_le (by rw [List.length_drop, Array.length_toList]; exact Nat.le_refl _)
theorem ext_take (s : ByteArray) (n : Nat) : s.extract 0 n = bs (s.data.toList.take n) := by
 apply ByteArray.ext
 rw [ByteArray.data_extract]
 unfold bs
 apply Array.ext'
 simp
theorem bs_inj {l m : List UInt8} (h : bs l = bs m) : l = m := by
 have := congrArg (fun b : ByteArray => b.data.toList) h
 exact this
theorem below_predrew {B : Nat} {w w1 : World} (h : Below B w.drew w1) : Below B w w1 := (Below.refl B w).drew.trans h
theorem toVar_yes {s : ByteArray} {v : Nat} {r : List UInt8} (w : World) (hs : s.size <= maxLen) (h : rdV s.data.toList = some (v, r)) :
  Calls Try.prog 35 #[.string s] w fun e w' => e = .returned (.tuple #[.int .u64 (v : Int), .string (bs r), .bool true]) /\ Below w.heap.size w w' := by
 obtain ⟨_, _, h3, _, _, h6, h7⟩ := rdV_some h
 refine (toVar_some s _ w hs rfl h3).mono fun e w' ⟨he, hb⟩ => ⟨?_, hb⟩
 rw [he, ext_drop, <- h6, <- h7]
theorem toVar_no {s : ByteArray} (w : World) (hs : s.size <= maxLen) (h : rdV s.data.toList = none) :
  Calls Try.prog 35 #[.string s] w fun e w' => e = .returned (.tuple #[.int .u64 0, .string ⟨#[]⟩, .bool false]) /\ Below w.heap.size w w' :=
 toVar_none s w hs (rdV_none h)
theorem next_v (s : ByteArray) (k v p : Nat) (hs : k < s.size) (hv : valL (s.data.toList.take k) % 18446744073709551616 = v) (hp : 128 ^ k % 18446744073709551616 = p) :
  IntKind.u64.wrap ((v : Int) + IntKind.u64.wrap ((s[k].toNat : Int) % 128 * (p : Int))) = ((valL (s.data.toList.take (k + 1)) % 18446744073709551616 : Nat) : Int) := by
 have hlen : (s.data.toList.take k).length = k := by simp; omega
 have hsn := valL_snoc (s.data.toList.take k) s[k]
 rw [hlen] at hsn
 rw [take_snoc s k hs, hsn, IntKind.wrap_u64, IntKind.wrap_u64, <- hv, <- hp]
 have e : ((s[k].toNat : Int) % 128 * ((128 ^ k % 18446744073709551616 : Nat) : Int)) = ((s[k].toNat % 128 * (128 ^ k % 18446744073709551616) : Nat) : Int) := by rw [Int.natCast_mul]; rfl
 rw [e]
 have e2 : s[k].toNat % 128 * (128 ^ k % 18446744073709551616) % 18446744073709551616 = s[k].toNat % 128 * 128 ^ k % 18446744073709551616 := by rw [Nat.mul_mod, Nat.mod_mod, <- Nat.mul_mod]
 omega
theorem next_p (k p : Nat) (hp : 128 ^ k % 18446744073709551616 = p) : IntKind.u64.wrap ((p : Int) * 128) = ((128 ^ (k + 1) % 18446744073709551616 : Nat) : Int) := by
 rw [IntKind.wrap_u64, <- hp, Nat.pow_succ]
 omega
set_option maxHeartbeats 1000000 in
theorem rtoVar_any (s : ByteArray) (w : World) (R : Ending -> World -> Prop)
  (hno : vsz 0 s.data.toList = 0 -> ∀ w', Below w.heap.size w w' -> R (.returned (.tuple #[.int .u64 0, .string ⟨#[]⟩, .bool false])) w')
  (hyes : ∀ n, vsz 0 s.data.toList = n -> n ≠ 0 -> ∀ w', Below w.heap.size w w' -> R (.returned (.tuple #[.int .u64 ((valL (s.data.toList.take n) : Nat) : Int), .string (s.extract n s.size), .bool true])) w') :
  Calls Try.prog 34 #[.string s] w R := by
 have HNO := Lib.hid hno; clear hno
 have HYES := Lib.hid hyes; clear hyes
 go_enter Try.func34, Try.ntmps34
 go_wp2
 go_loopw [5, 6, 7] (fun v p i wr => ∃ k : Nat, k <= s.size /\ k <= 10 /\ i = .int .i64 k /\ v = .int .u64 ((valL (s.data.toList.take k) % 18446744073709551616 : Nat) : Int) /\ p = .int .u64 ((128 ^ k % 18446744073709551616 : Nat) : Int) /\ Hid (vsz 0 s.data.toList = vsz k (s.data.toList.drop k)) /\ w = wr) (fun _ _ i _ => 10 - (intOf i).toNat)
 case atStart => exact ⟨0, Nat.zero_le _, Nat.zero_le _, rfl, rfl, rfl, rfl, rfl⟩
 case round =>
  obtain ⟨k, hk, hk10, rfl, rfl, rfl, HV, rfl⟩ := hrel
  by_cases hlt : k < s.size /\ k < 10
  ·obtain ⟨hks, hkt⟩ := hlt
   have hbl := byte_lt s[k]
   obtain ⟨v, hv⟩ : ∃ v, valL (s.data.toList.take k) % 18446744073709551616 = v := ⟨_, rfl⟩
   obtain ⟨p, hp⟩ : ∃ p, 128 ^ k % 18446744073709551616 = p := ⟨_, rfl⟩
   have hvl : v < 18446744073709551616 := by rw [<- hv]; exact Nat.mod_lt _ (by omega)
   have hpl : p < 18446744073709551616 := by rw [<- hp]; exact Nat.mod_lt _ (by omega)
   rw [hv, hp]
   have HNV := Lib.hid (next_v s k v p hks hv hp)
   have HNP := Lib.hid (next_p k p hp)
   clear hv hp
   by_cases hb : 128 <= s[k].toNat
   ·have HN : Hid (vsz 0 s.data.toList = vsz (k + 1) (s.data.toList.drop (k + 1))) := by
     show _ = _; rw [HV.out, vsz_step _ k (by simpa using hks) (by omega) (by rw [getB s k hks]; exact hb)]
    go_wp2
    go_roundw
    case rel => exact ⟨k + 1, by omega, by omega, by go_num, ret_u32 HNV.out, ret_u32 HNP.out, HN, trivial⟩
    case measure => simp [intOf]; omega
   ·have HN : Hid (vsz 0 s.data.toList = if (0 < k /\ s[k].toNat = 0) \/ (k = 9 /\ 1 < s[k].toNat) then 0 else k + 1) := by
     show _ = _; rw [HV.out, vsz_last _ k (by simpa using hks) (by omega) (by rw [getB s k hks]; omega), getB s k hks]
    obtain ⟨y, hy⟩ : ∃ y, valL (s.data.toList.take (k + 1)) % 18446744073709551616 = y := ⟨_, rfl⟩
    have hyl : y < 18446744073709551616 := by rw [<- hy]; exact Nat.mod_lt _ (by omega)
    rw [hy] at HNV
    have HY := Lib.hid hy; clear hy
    have q1 : (0 : Int) <= (k : Int) + 1 := by omega
    have q2 : (k : Int) + 1 <= (s.size : Int) := by omega
    have q3 : k + 1 <= s.size := by omega
    have q4 : IntKind.i64.wrap ((k : Int) + 1) = (k : Int) + 1 := IntWalk.i64_in _ (by omega)
    have q5 : ((k : Int) + 1).toNat = k + 1 := by omega
    by_cases hc : (0 < k /\ s[k].toNat = 0) \/ (k = 9 /\ 1 < s[k].toNat)
    ·have HZ : Hid (vsz 0 s.data.toList = 0) := by show _ = _; rw [HN.out, if_pos hc]
     have hq : (!((bs (varL y)).toList == (s.extract 0 (k + 1)).toList)) = true := by
      rw [str_diff]; rfl
      rw [ext_take]
      intro h
      have := rd_again s.data.toList k HZ.out
      rw [HY.out] at this
      exact this (bs_inj h)
     clear hc
     go_wp2
     rw [HNV.out]
     go_region_with (go_at_call 36; refine (rvar_any y _ hyl).mono ?_; rintro e w1 ⟨rfl, hb1⟩; have HB1 := Lib.hid hb1; clear hb1)
     simp only [Act.put, List.getElem_toArray, List.getElem_cons_succ, List.getElem_cons_zero, List.setIfInBounds_toArray, List.set_cons_succ, List.set_cons_zero]
     go_wp2
     go_ret3
     exact HNO.out HZ.out _ (below_predrew HB1.out)
    ·have HZ : Hid (vsz 0 s.data.toList = k + 1) := by show _ = _; rw [HN.out, if_neg hc]
     have hyy := rd_again' s.data.toList (by rw [HZ.out]; omega)
     rw [HZ.out, HY.out] at hyy
     have HYV : Hid (y = valL (s.data.toList.take (k + 1))) := hyy.2
     have hq : (!((bs (varL y)).toList == (s.extract 0 (k + 1)).toList)) = false := by
      rw [str_same]; rfl
      rw [ext_take, hyy.1]
     clear hc hyy
     go_wp2
     rw [HNV.out]
     go_region_with (go_at_call 36; refine (rvar_any y _ hyl).mono ?_; rintro e w1 ⟨rfl, hb1⟩; have HB1 := Lib.hid hb1; clear hb1)
     simp only [Act.put, List.getElem_toArray, List.getElem_cons_succ, List.getElem_cons_zero, List.setIfInBounds_toArray, List.set_cons_succ, List.set_cons_zero]
     go_wp2
     go_quiet (fail)
     go_wp2
     go_ret3
     have := HYES.out (k + 1) HZ.out (by omega)
     rw [<- HYV.out] at this
     exact this _ (below_drewN (below_predrew HB1.out) _)
  ·have HZ : Hid (vsz 0 s.data.toList = 0) := by
    show _ = _; rw [HV.out]; apply vsz_end
    have e : s.data.toList.length = s.size := by simp
    omega
   by_cases hks : k < s.size
   ·have hk10' : (10 : Int) <= (k : Int) := by omega
    clear hlt
    go_wp2
    go_ret3
    exact HNO.out HZ.out _ (Below.refl _ _)
   ·clear hlt
    go_wp2
    go_ret3
    exact HNO.out HZ.out _ (Below.refl _ _)
theorem rtoVar_yes {s : ByteArray} {v : Nat} {r : List UInt8} (w : World) (_hs : s.size <= maxLen) (h : rdV s.data.toList = some (v, r)) :
  Calls Try.prog 34 #[.string s] w fun e w' => e = .returned (.tuple #[.int .u64 (v : Int), .string (bs r), .bool true]) /\ Below w.heap.size w w' := by
 obtain ⟨_, _, h3, _, _, h6, h7⟩ := rdV_some h
 refine rtoVar_any s w _ (fun h0 => absurd h0 h3) ?_
 rintro n rfl _ w' hb
 refine ⟨?_, hb⟩
 rw [ext_drop, <- h6, <- h7]
theorem rtoVar_no {s : ByteArray} (w : World) (_hs : s.size <= maxLen) (h : rdV s.data.toList = none) :
  Calls Try.prog 34 #[.string s] w fun e w' => e = .returned (.tuple #[.int .u64 0, .string ⟨#[]⟩, .bool false]) /\ Below w.heap.size w w' := by
 refine rtoVar_any s w _ (fun _ w' hb => ⟨rfl, hb⟩) ?_
 rintro n rfl h0
 exact absurd (rdV_none h) h0
theorem rest_le {l : List UInt8} {n : Nat} {q : List UInt8} (h : rdV l = some (n, q)) : q.length <= l.length := by
 obtain ⟨_, _, _, _, _, _, h7⟩ := rdV_some h
 rw [h7, List.length_drop]; omega
end Go.Proofs.Ytjcajeilhcjneaa.Fr
/- The document's reader of postings' bytes. -/
set_option maxRecDepth 100000
namespace Go.Proofs.Ytjcajeilhcjneaa.Po
open Go.RowKit
open Fr (rdV bs str_len cell_at)
theorem bs_list (l : List UInt8) : (bs l).data.toList = l := by unfold bs; simp
def nNum (most : Nat) (o : Option (List UInt8)) : Nat × Option (List UInt8) := match o.bind (pNum most) with
 | some (v, r) => (v, some r)
 | none => (0, none)
def RrOK (w : World) (g : Nat) (o : Option (List UInt8)) : Prop := ∃ s b, w.heap[g]? = some (.cells #[.string s, .bool b] 53 (0, 0)) /\ s.size <= 4000000 /\ (∀ l, o = some l -> b = true /\ s.data.toList = l) /\ (o = none -> b = false)
theorem RrOK.lt {w : World} {g : Nat} {o : Option (List UInt8)} (h : RrOK w g o) : g < w.heap.size := by
 obtain ⟨s, b, h, _⟩ := h
 exact (Array.getElem?_eq_some_iff.1 h).1
theorem RrOK.below {w w' : World} {g : Nat} {o : Option (List UInt8)} (h : RrOK w g o) (hb : Below w.heap.size w w') : RrOK w' g o := by
 have hl := h.lt
 obtain ⟨s, b, h, rest⟩ := h
 exact ⟨s, b, (hb.block g hl).trans h, rest⟩
theorem RrOK.only {w w' : World} {g : Nat} {o : Option (List UInt8)} (h : RrOK w g o) {S : Nat -> Prop} (hb : Only S w w') (hS : ¬ S g) : RrOK w' g o := by
 have hl := h.lt
 obtain ⟨s, b, h, rest⟩ := h
 exact ⟨s, b, (hb.block g hl hS).trans h, rest⟩
theorem RrOK.drew {w : World} {g : Nat} {o : Option (List UInt8)} (h : RrOK w g o) : RrOK w.drew g o := by
 obtain ⟨s, b, h, rest⟩ := h
 exact ⟨s, b, h, rest⟩
theorem rr_bad {w : World} {g : Nat} {s : ByteArray} {b : Bool} (h : w.heap[g]? = some (.cells #[.string s, .bool b] 53 (0, 0))) (hs : s.size <= 4000000) : RrOK (w.setCell ⟨g, 1, none⟩ (.bool false)) g none :=
 ⟨s, false, heap_setCell_at h _, hs, (fun l h => by cases h), fun _ => rfl⟩
theorem rr_on {w : World} {g : Nat} {s t : ByteArray} {b : Bool} (h : w.heap[g]? = some (.cells #[.string s, .bool b] 53 (0, 0))) (ht : t.size <= 4000000) (hb : b = true) : RrOK (w.setCell ⟨g, 0, none⟩ (.string t)) g (some t.data.toList) :=
 ⟨t, b, heap_setCell_at h _, ht, (fun l h => by cases h; exact ⟨hb, rfl⟩), (fun h => by cases h)⟩
theorem rr_off {w : World} {g : Nat} {s t : ByteArray} (h : w.heap[g]? = some (.cells #[.string s, .bool false] 53 (0, 0))) (ht : t.size <= 4000000) : RrOK (w.setCell ⟨g, 0, none⟩ (.string t)) g none :=
 ⟨t, false, heap_setCell_at h _, ht, (fun l h => by cases h), fun _ => rfl⟩
set_option maxHeartbeats 2000000 in
theorem rnum_any (most : Nat) (hm : most <= 4294967295) (o : Option (List UInt8)) (g : Nat) (w : World) (h : RrOK w g o) :
  Calls Try.prog 27 #[.pointer (some ⟨g, 0, none⟩), .int .i64 (most : Int)] w fun e w' => ∃ q : Nat, e = .returned (.int .i64 (q : Int)) /\ q <= most /\ (o ≠ none -> q = (nNum most o).1) /\ Hid (RrOK w' g (nNum most o).2) /\ Hid (Only (fun k => k = g) w w') := by
 obtain ⟨s, b, hg, hs, h1, h2⟩ := h
 have hlt := (Array.getElem?_eq_some_iff.1 hg).1
 have x0 : w.cell? ⟨g, 0, none⟩ = some (.string s) := cell_at hg 0
 have HX : Hid (∀ W, Below w.heap.size w W -> W.heap[g]? = some (.cells #[.string s, .bool b] 53 (0, 0)) /\ W.cell? ⟨g, 1, none⟩ = some (.bool b) /\ W.cell? ⟨g, 0, none⟩ = some (.string s) /\ W.frozen? ⟨g, 1, none⟩ = false /\ W.frozen? ⟨g, 0, none⟩ = false) := fun W hW => by
  have e := (hW.block g hlt).trans hg
  exact ⟨e, cell_at e 1, cell_at e 0, free_at e 1, free_at e 0⟩
 have HO : Hid (∀ (W : World) (i : Nat) (u : Value), Below w.heap.size w W -> Only (fun k => k = g) w (W.setCell ⟨g, i, none⟩ u)) := fun W i u hW => (Only.of_below (fun k => k = g) hW (Nat.le_refl _)).setCell (p := ⟨g, i, none⟩) (fun _ => rfl) u
 have wm : IntKind.u64.wrap (most : Int) = (most : Int) := by rw [IntKind.wrap_u64]; omega
 have hz : (nNum most none).2 = none := rfl
 cases hv : rdV s.data.toList with
 | none =>
  have hz : nNum most o = (0, none) := by
   unfold nNum
   cases o with
   | none => rfl
   | some l => have := (h1 l rfl).2; subst this; simp [pNum, hv]
  rw [hz]
  have C := Lib.hid (Fr.rtoVar_no w (by unfold maxLen; omega) hv)
  clear hv h1 h2 hz hg
  go_enter Try.func27, Try.ntmps27
  go_wp2_with fail
  refine C.out.mono ?_
  rintro e w1 ⟨rfl, hb1⟩
  have HB := Lib.hid hb1; clear hb1 C
  obtain ⟨e1, y1, y0, f1, f0⟩ := HX.out w1 HB.out
  have HE := Lib.hid e1; clear e1 x0
  go_wp2
  go_ret
  exact ⟨0, rfl, Nat.zero_le _, (fun _ => rfl), rr_bad HE.out hs, HO.out w1 1 _ HB.out⟩
 | some p =>
  obtain ⟨v, r⟩ := p
  have C := Lib.hid (Fr.rtoVar_yes w (by unfold maxLen; omega) hv)
  have hvb := (Fr.rdV_some hv).2.1
  have hrl := Fr.rest_le hv
  rw [str_len] at hrl
  have hQ := Fr.bs_size r
  by_cases hmo : v <= most
  ·have z1 : ¬ ((most : Int) < (v : Int)) := by omega
   have HR : Hid (∀ W : World, W.heap[g]? = some (.cells #[.string s, .bool b] 53 (0, 0)) -> RrOK (W.setCell ⟨g, 0, none⟩ (.string (bs r))) g (nNum most o).2) := fun W hW => by
    cases o with
    | none =>
     obtain rfl := h2 rfl
     exact rr_off hW (by rw [hQ]; omega)
    | some l =>
     obtain ⟨rfl, rfl⟩ := h1 l rfl
     have hz : nNum most (some s.data.toList) = (v, some r) := by simp [nNum, pNum, hv, hmo]
     rw [hz]
     have := rr_on (t := bs r) hW (by rw [hQ]; omega) rfl
     rw [bs_list] at this
     exact this
   have HV : Hid (o ≠ none -> v = (nNum most o).1) := fun ho => by
    cases o with
    | none => exact absurd rfl ho
    | some l =>
     obtain ⟨_, rfl⟩ := h1 l rfl
     simp [nNum, pNum, hv, hmo]
   have ww : IntKind.i64.wrap (v : Int) = (v : Int) := IntWalk.i64_in _ (by omega)
   clear hv h1 h2 hz hg
   generalize bs r = Q at *
   go_enter Try.func27, Try.ntmps27
   go_wp2_with fail
   refine C.out.mono ?_
   rintro e w1 ⟨rfl, hb1⟩
   have HB := Lib.hid hb1; clear hb1 C
   obtain ⟨e1, y1, y0, f1, f0⟩ := HX.out w1 HB.out
   have HE := Lib.hid e1; clear e1 x0
   go_wp2
   go_ret
   exact ⟨v, rfl, hmo, HV.out, HR.out w1 HE.out, HO.out w1 0 _ HB.out⟩
  ·have hz : nNum most o = (0, none) := by
    unfold nNum
    cases o with
    | none => rfl
    | some l => have := (h1 l rfl).2; subst this; simp [pNum, hv, hmo]
   rw [hz]
   have z1 : (most : Int) < (v : Int) := by omega
   clear hv h1 h2 hz hg
   generalize bs r = Q at *
   go_enter Try.func27, Try.ntmps27
   go_wp2_with fail
   refine C.out.mono ?_
   rintro e w1 ⟨rfl, hb1⟩
   have HB := Lib.hid hb1; clear hb1 C
   obtain ⟨e1, y1, y0, f1, f0⟩ := HX.out w1 HB.out
   have HE := Lib.hid e1; clear e1 x0
   go_wp2
   go_ret
   exact ⟨0, rfl, Nat.zero_le _, (fun _ => rfl), rr_bad HE.out hs, HO.out w1 1 _ HB.out⟩
end Go.Proofs.Ytjcajeilhcjneaa.Po
/- Rows of numbers and of postings, as what is there to be read; and what the document's rising answers. -/
set_option maxRecDepth 100000
namespace Go.Proofs.Ytjcajeilhcjneaa.Po
open Go.RowKit
def SlI (w : World) (v : Value) (L : List Int) : Prop := ∃ ao c, v = .slice ao L.length c /\ L.length <= c /\ ∀ j (hj : j < L.length), ∃ g off, ao = some ⟨g, off, none⟩ /\ g < w.heap.size /\ w.cell? ⟨g, off + j, none⟩ = some (.int .i64 L[j])
theorem SlI.below {w w' : World} {v : Value} {L : List Int} (h : SlI w v L) (hb : Below w.heap.size w w') : SlI w' v L := by
 obtain ⟨ao, c, hv, hl, hc⟩ := h
 refine ⟨ao, c, hv, hl, fun j hj => ?_⟩
 obtain ⟨g, off, e, hg, h1⟩ := hc j hj
 exact ⟨g, off, e, Nat.lt_of_lt_of_le hg hb.size, (hb.cell (p := ⟨g, _, none⟩) hg).trans h1⟩
def SlP (w : World) (v : Value) (L : List Pg) : Prop := ∃ ao c, v = .slice ao L.length c /\ L.length <= c /\ ∀ j (hj : j < L.length), ∃ g off ve, ao = some ⟨g, off, none⟩ /\ g < w.heap.size /\ w.cell? ⟨g, off + j * 2, none⟩ = some (.int .i64 L[j].doc) /\ w.cell? ⟨g, off + j * 2 + 1, none⟩ = some ve /\ SlI w ve L[j].pos
theorem SlP.below {w w' : World} {v : Value} {L : List Pg} (h : SlP w v L) (hb : Below w.heap.size w w') : SlP w' v L := by
 obtain ⟨ao, c, hv, hl, hc⟩ := h
 refine ⟨ao, c, hv, hl, fun j hj => ?_⟩
 obtain ⟨g, off, ve, e, hg, h1, h2, h3⟩ := hc j hj
 exact ⟨g, off, ve, e, Nat.lt_of_lt_of_le hg hb.size, (hb.cell (p := ⟨g, _, none⟩) hg).trans h1, (hb.cell (p := ⟨g, _, none⟩) hg).trans h2, h3.below hb⟩
theorem rise_step {l : List Int} {b : Int} {i : Nat} (h : Rise (l.take i) b) (hi : i < l.length) (h0 : 0 <= l[i]) (h1 : l[i] < b) (h2 : ∀ hp : 0 < i, l[i - 1] < l[i]) : Rise (l.take (i + 1)) b := by
 rw [List.take_succ_eq_append_getElem hi]
 refine ⟨fun x hx => ?_, List.pairwise_append.2 ⟨h.2, List.pairwise_singleton .., fun x hx y hy => ?_⟩⟩
 ·rcases List.mem_append.1 hx with hx | hx
  ·exact h.1 x hx
  ·rw [List.mem_singleton.1 hx]; exact ⟨h0, h1⟩
 ·rw [List.mem_singleton.1 hy]
  obtain ⟨k, hk, rfl⟩ := List.mem_iff_getElem.1 hx
  rw [List.length_take] at hk
  rw [List.getElem_take]
  have hp := h2 (by omega)
  by_cases e : k = i - 1
  ·subst e; exact hp
  ·have := List.pairwise_iff_getElem.1 h.2 k (i - 1) (by rw [List.length_take]; omega) (by rw [List.length_take]; omega) (by omega)
   rw [List.getElem_take, List.getElem_take] at this
   omega
theorem rise_not {l : List Int} {b : Int} {i : Nat} (hi : i < l.length) (h : l[i] < 0 \/ b <= l[i] \/ ∃ hp : 0 < i, l[i] <= l[i - 1]) : ¬ Rise l b := by
 rintro ⟨h1, h2⟩
 have := h1 l[i] (List.getElem_mem hi)
 rcases h with h | h | ⟨hp, h⟩
 ·omega
 ·omega
 ·have := List.pairwise_iff_getElem.1 h2 (i - 1) i (by omega) hi (by omega)
  omega
set_option maxHeartbeats 4000000 in
theorem rising_any (L : List Int) (b : Int) (v : Value) (w : World) (h : SlI w v L) (hn : L.length <= maxLen) : Calls Try.prog 25 #[v, .int .i64 b] w fun e w' => e = .returned (.bool (decide (Rise L b))) /\ Below w.heap.size w w' := by
 obtain ⟨ao, c, rfl, _, hc⟩ := h
 have HC := Lib.hid hc
 obtain ⟨n, hl⟩ : ∃ n, L.length = n := ⟨_, rfl⟩
 have HN := Lib.hid hl
 have hnm : n <= 9223372036854775807 := by rw [<- hl]; unfold maxLen at hn; exact hn
 obtain ⟨q, hq⟩ : ∃ q, decide (Rise L b) = q := ⟨_, rfl⟩
 have HQ := Lib.hid hq
 rw [hl, hq]
 clear hl hc hn hq
 go_enter Try.func25, Try.ntmps25
 go_wp2_with fail
 go_loopw [5] (fun iv wr => ∃ i : Nat, i <= n /\ iv = .int .i64 (i : Int) /\ Hid (Below w.heap.size w wr) /\ Hid (Rise (L.take i) b)) (fun iv _ => n - (intOf iv).toNat)
 case atStart => exact ⟨0, Nat.zero_le _, rfl, Below.refl _ _, ⟨by simp, by simp⟩⟩
 case round =>
  obtain ⟨i, hi, rfl, HB, HR⟩ := hrel
  by_cases hlt : i < n
  ·have hiz : (i : Int) < (n : Int) := by omega
   have hiL : i < L.length := by rw [HN.out]; exact hlt
   obtain ⟨g, off, rfl, hg, h1⟩ := HC.out i hiL
   have x1 := (HB.out.cell (p := ⟨g, _, none⟩) hg).trans h1
   have HD : Hid (∀ nq, Below w.heap.size w (wr.drewN nq)) := fun nq => by have := HB.out; exact ⟨this.os, this.tape, this.output, this.size, this.block⟩
   have HNo : Hid (L[i] < 0 \/ b <= L[i] \/ (∃ hp : 0 < i, L[i] <= L[i - 1]) -> q = false) := fun h => by
    rw [<- HQ.out]; exact decide_eq_false (rise_not hiL h)
   have HYes : Hid (0 <= L[i] -> L[i] < b -> (∀ hp : 0 < i, L[i - 1] < L[i]) -> Rise (L.take (i + 1)) b) := fun h0 h1 h2 => rise_step HR.out hiL h0 h1 h2
   have HP : Hid (∀ hp : 0 < i, wr.cell? ⟨g, off + (i - 1), none⟩ = some (.int .i64 L[i - 1])) := fun hp => by
    obtain ⟨g', off', e, hg', h1'⟩ := HC.out (i - 1) (by omega)
    cases e
    exact (HB.out.cell (p := ⟨g, _, none⟩) hg').trans h1'
   have hi1 : i - 1 < L.length := by omega
   clear h1 hg
   generalize L[i] = x at *
   have h3 : 0 <= (i : Int) := by omega
   have h4 : (i : Int).toNat = i := rfl
   by_cases z0 : x < 0
   ·have b0 : decide (x < 0) = true := decide_eq_true z0
    have HF := Lib.hid (HNo.out (.inl z0))
    go_wp2_with fail
    go_quiet (fail)
    go_wp2
    go_ret
    exact ⟨congrArg (fun b => Ending.returned (.bool b)) HF.out.symm, HD.out nq⟩
   ·have b0 : decide (x < 0) = false := decide_eq_false z0
    by_cases z1 : b <= x
    ·have b1 : decide (b <= x) = true := decide_eq_true z1
     have HF := Lib.hid (HNo.out (.inr (.inl z1)))
     go_wp2_with fail
     go_quiet (fail)
     go_wp2
     go_ret
     exact ⟨congrArg (fun b => Ending.returned (.bool b)) HF.out.symm, HD.out nq⟩
    ·have b1 : decide (b <= x) = false := decide_eq_false z1
     by_cases hp : i = 0
     ·have hip : ¬ (0 : Int) < (i : Int) := by omega
      have hpb : decide (0 < i) = false := decide_eq_false (by omega)
      have HF := Lib.hid (HYes.out (by omega) (by omega) (fun h => absurd h (by omega)))
      clear hip hp
      go_wp2_with fail
      go_quiet (fail)
      go_wp2_with fail
      go_roundw
      case rel => exact ⟨i + 1, by omega, by go_num, HD.out nq, HF.out⟩
      case measure => simp [intOf]; omega
     ·have y1 := HP.out (by omega)
      have hip : (0 : Int) < (i : Int) := by omega
      have hpb : decide (0 < i) = true := decide_eq_true (by omega)
      have h5 : 0 <= (i : Int) - 1 := by omega
      have h6 : ((i : Int) - 1).toNat = i - 1 := by omega
      have h7 : (i : Int) - 1 < (n : Int) := by omega
      have h8 : IntKind.i64.wrap ((i : Int) - 1) = (i : Int) - 1 := IntWalk.i64_in _ (by omega)
      by_cases z2 : x <= L[i - 1]
      ·have HF := Lib.hid (HNo.out (.inr (.inr ⟨by omega, z2⟩)))
       generalize L[i - 1] = y at *
       have b2 : decide (x <= y) = true := decide_eq_true z2
       go_wp2_with fail
       go_quiet (fail)
       go_wp2
       go_ret
       exact ⟨congrArg (fun b => Ending.returned (.bool b)) HF.out.symm, HD.out nq⟩
      ·have HF := Lib.hid (HYes.out (by omega) (by omega) (fun _ => by omega))
       generalize L[i - 1] = y at *
       have b2 : decide (x <= y) = false := decide_eq_false z2
       go_wp2_with fail
       go_quiet (fail)
       go_wp2_with fail
       go_roundw
       case rel => exact ⟨i + 1, by omega, by go_num, HD.out nq, HF.out⟩
       case measure => simp [intOf]; omega
  ·obtain rfl : i = n := by omega
   have hiz : ¬ (i : Int) < (i : Int) := by omega
   have HF : Hid (q = true) := by
    have := HR.out
    rw [List.take_of_length_le (by rw [HN.out]; exact Nat.le_refl _)] at this
    show _ = _
    rw [<- HQ.out]; exact decide_eq_true this
   go_wp2_with fail
   go_ret
   exact ⟨congrArg (fun b => Ending.returned (.bool b)) HF.out.symm, HB.out⟩
end Go.Proofs.Ytjcajeilhcjneaa.Po
/- What the document's Right of postings answers. -/
set_option maxRecDepth 100000
namespace Go.Proofs.Ytjcajeilhcjneaa.Po
open Go.RowKit
theorem cell_atP {w : World} {p : Nat} {cs : Array Value} {e : TypeId} {fz : Nat × Nat} (h : w.heap[p]? = some (.cells cs e fz)) (i : Nat) : w.cell? ⟨p, i, none⟩ = cs[i]? := by
 simp [World.cell?, h]
theorem heap_newP (w : World) (o : Obj) : (w.alloc o).heap[w.heap.size]? = some o := heap_alloc_new w o
theorem add_atP (b off j : Nat) : (⟨b, off, none⟩ : Addr).add j = ⟨b, off + j, none⟩ := by unfold Addr.add; split <;> simp_all
def OwnI (B : Nat) (w : World) (v : Value) (L : List Int) : Prop := w.ownsRow B 3 1 v L.length (L.map fun x => .int .i64 x)
theorem infoI : (Try.prog.info? 3).map (fun i => (i.zero, i.size, i.bytes)) = some (some (.int .i64 0), 1, 8) := by kernel_rfl
theorem own_belowP {B : Nat} {e : TypeId} {k : Nat} {v : Value} {n : Nat} {xs : List Value} {w w' : World} (h : w.ownsRow B e k v n xs) (hb : Below w.heap.size w w') : w'.ownsRow B e k v n xs := by
 refine ⟨h.1, ?_⟩
 rcases h.2 with hn | ⟨g, cap, cur, rfl, hbg, hg, rest⟩
 ·exact .inl hn
 ·exact .inr ⟨g, cap, cur, rfl, hbg, by rw [hb.block g (Array.getElem?_eq_some_iff.1 hg).1]; exact hg, rest⟩
theorem OwnI.below {B : Nat} {w w' : World} {v : Value} {L : List Int} (h : OwnI B w v L) (hb : Below w.heap.size w w') : OwnI B w' v L := own_belowP h hb
theorem own_low {B : Nat} {e : TypeId} {k : Nat} {w : World} {v : Value} {n : Nat} {xs : List Value} (h : w.ownsRow B e k v n xs) {q : Nat} (hq : v.ownBlock = some q) : B <= q := by
 rcases h.2 with ⟨rfl, _⟩ | ⟨g, cap, cur, rfl, hbg, _⟩
 ·cases hq
 ·have : g = q := by injection hq
  omega
theorem OwnI.sl {B : Nat} {w : World} {v : Value} {L : List Int} (h : OwnI B w v L) : SlI w v L := by
 have hO := h
 rcases h.2 with ⟨hv, hn⟩ | ⟨g, cap, cur, rfl, hbg, hg, hc, _⟩
 ·exact ⟨none, 0, by rw [hv, hn], by omega, fun j hj => absurd hj (by omega)⟩
 ·refine ⟨_, cap, rfl, hc, fun j hj => ⟨g, 0, rfl, (Array.getElem?_eq_some_iff.1 hg).1, ?_⟩⟩
  rw [Nat.zero_add, World.ownsRow.cellAt hO j (by omega)]
  simp [hj]
theorem one_cellI {w : World} {t : TypeId} {x : Int} {g : Nat} (hg : w.heap.size = g) : ∀ (j : Nat) (u : Value), [Value.int .i64 x][j]? = some u -> (w.alloc (.cells #[.int .i64 x] t)).cell? ((⟨g, 0, none⟩ : Addr).add j) = some u := by
 subst hg
 intro j u hu
 rw [add_atP, Nat.zero_add, cell_atP (heap_newP ..)]
 rw [<- hu]; simp
theorem one_oneI {x : Int} : ∀ u ∈ [Value.int .i64 x], u.oneCell' = true := by
 intro u hu
 simp only [List.mem_cons, List.not_mem_nil, or_false] at hu
 subst hu; rfl
set_option maxHeartbeats 4000000 in
theorem xright_any (L : List Pg) (v : Value) (w : World) (h : SlP w v L) (hn : L.length <= 100000) (hp : ∀ p ∈ L, p.pos.length <= maxLen) : Calls Try.prog 14 #[v] w fun e w' => e = .returned (.bool (decide (RightG L))) /\ Below w.heap.size w w' := by
 obtain ⟨i0, hi, hz0, hz1, hz2⟩ := info_parts infoI
 have HZ2 := Lib.hid hz2; clear hz2
 obtain ⟨ao, c, rfl, _, hc⟩ := h
 have HC := Lib.hid hc
 have HPL := Lib.hid hp
 obtain ⟨n, hl⟩ : ∃ n, L.length = n := ⟨_, rfl⟩
 have HN := Lib.hid hl
 obtain ⟨q, hq⟩ : ∃ q, decide (RightG L) = q := ⟨_, rfl⟩
 have HQ := Lib.hid hq
 rw [hl, hq]
 rw [hl] at hn
 clear hl hc hp hq
 go_enter Try.func14, Try.ntmps14
 go_wp2_with fail
 go_loopw [3, 4] (fun ov iv wr => ∃ i : Nat, i <= n /\ iv = .int .i64 (i : Int) /\ Hid (Below w.heap.size w wr) /\ Hid (OwnI w.heap.size wr ov ((L.map Pg.doc).take i)) /\ Hid (∀ p ∈ L.take i, Rise p.pos 2000 /\ p.pos ≠ [])) (fun _ iv _ => n - (intOf iv).toNat)
 case atStart => exact ⟨0, Nat.zero_le _, rfl, Below.refl _ _, World.ownsRow_nil _ _ _ _, fun p hp => by simp at hp⟩
 case round =>
  obtain ⟨i, hi1, rfl, HB, HO, HG⟩ := hrel
  by_cases hlt : i < n
  ·have hiz : (i : Int) < (n : Int) := by omega
   have hiL : i < L.length := by rw [HN.out]; exact hlt
   obtain ⟨g, off, ve, rfl, hg, h1, h2, h3'⟩ := HC.out i hiL
   have x1 := (HB.out.cell (p := ⟨g, _, none⟩) hg).trans h1
   have HX2 : Hid (∀ W, Below w.heap.size w W -> W.cell? ⟨g, off + i * 2 + 1, none⟩ = some ve) := fun W hW => (hW.cell (p := ⟨g, _, none⟩) hg).trans h2
   have HS := Lib.hid h3'
   have HLen : Hid (((L.map Pg.doc).take i).length = i) := by show _ = _; rw [List.length_take, List.length_map]; omega
   have HT : Hid ((L.map Pg.doc).take (i + 1) = (L.map Pg.doc).take i ++ [L[i].doc]) := by
    show _ = _
    rw [List.take_succ_eq_append_getElem (by rw [List.length_map]; exact hiL), List.getElem_map]
   have HNo : Hid (¬ (Rise L[i].pos 2000 /\ L[i].pos ≠ []) -> q = false) := fun h => by
    rw [<- HQ.out]; exact decide_eq_false fun hr => h (hr.1 L[i] (List.getElem_mem hiL))
   have HYes : Hid (Rise L[i].pos 2000 /\ L[i].pos ≠ [] -> ∀ p ∈ L.take (i + 1), Rise p.pos 2000 /\ p.pos ≠ []) := fun h p hp => by
    rw [List.take_succ_eq_append_getElem hiL] at hp
    rcases List.mem_append.1 hp with hp | hp
    ·exact HG.out p hp
    ·rw [List.mem_singleton.1 hp]; exact h
   have hpl := HPL.out L[i] (List.getElem_mem hiL)
   have CR := Lib.hid (fun W (hW : Below w.heap.size w W) => rising_any L[i].pos 2000 ve W (HS.out.below hW) hpl)
   obtain ⟨m, hm⟩ : ∃ m, L[i].pos.length = m := ⟨_, rfl⟩
   have HM := Lib.hid hm
   have HVe : Hid (∃ ao' c', ve = .slice ao' m c') := by
    obtain ⟨ao', c', hv', _⟩ := h3'
    rw [hm] at hv'
    exact ⟨ao', c', hv'⟩
   clear h1 h2 hg h3' hm hpl HS
   generalize (L.map Pg.doc).take i = o at *
   generalize L[i].doc = d at *
   obtain ⟨b, hb⟩ : ∃ b, decide (Rise L[i].pos 2000) = b := ⟨_, rfl⟩
   have HNe : Hid (m = 0 ↔ L[i].pos = []) := by
    rw [<- HM.out]; exact List.length_eq_zero_iff
   rw [hb] at CR
   have HNo2 : Hid ((b = false \/ m = 0) -> q = false) := fun h => HNo.out fun ⟨r1, r2⟩ => by
    rcases h with h | h
    ·rw [<- hb, decide_eq_true r1] at h; cases h
    ·exact r2 (HNe.out.1 h)
   have HYes2 : Hid (b = true -> m ≠ 0 -> ∀ p ∈ L.take (i + 1), Rise p.pos 2000 /\ p.pos ≠ []) := fun h1 h2 => HYes.out ⟨of_decide_eq_true (hb.trans h1), fun h => h2 (HNe.out.2 h)⟩
   clear hb HNo HYes HNe HM
   obtain ⟨ao', c', rfl⟩ := HVe.out
   have h3 : 0 <= (i : Int) := by omega
   have h4 : (i : Int).toNat = i := rfl
   go_wp2_with (at_builtin; go_loud (refine wpList_append_own _ rfl _ _ 35 rfl w.heap.size 3 i0 _ 1 8 Try.underlying35 hi hz0 hz1 HZ2.out rfl (by decide) _ _ _ rfl (HO.out.alloc _) _ 1 1 [.int .i64 d] rfl rfl (one_cellI (by simp)) one_oneI ?c3 ?c4 ?c5 ?_))
   case c3 => have := HLen.out; unfold maxLen; omega
   case c4 => have := HLen.out; omega
   case c5 => have := HB.out.size; simp; omega
   intro v1 w4 hown hgrow _
   have HO4 : Hid (OwnI w.heap.size w4 v1 (o ++ [d])) := by
    show OwnI _ _ _ _
    unfold OwnI
    rw [List.length_append, List.map_append]
    exact hown
   have HB4 : Hid (Below w.heap.size w w4) := (HB.out.alloc HB.out.size _).grown hgrow (by have := HB.out.size; simp; omega) (fun q hq => own_low HO.out hq)
   have x4 := HX2.out w4 HB4.out
   have CR4 := Lib.hid (CR.out w4 HB4.out)
   clear hown hgrow x1 HO HB CR
   go_wp2_with fail
   refine CR4.out.mono ?_
   rintro e w5 ⟨rfl, hb5⟩
   have HB5 := Lib.hid (HB4.out.trans (hb5.mono HB4.out.size))
   have HO5 := Lib.hid (HO4.out.below hb5)
   have x5 := HX2.out w5 HB5.out
   clear hb5 x4 CR4 HO4 HB4
   cases b with
   | false =>
    have HF := Lib.hid (HNo2.out (.inl rfl))
    go_wp2_with fail
    go_ret
    exact ⟨congrArg (fun b => Ending.returned (.bool b)) HF.out.symm, HB5.out⟩
   | true =>
    by_cases hm : m = 0
    ·have HF := Lib.hid (HNo2.out (.inr hm))
     subst hm
     go_wp2_with fail
     go_ret
     exact ⟨congrArg (fun b => Ending.returned (.bool b)) HF.out.symm, HB5.out⟩
    ·have HF := Lib.hid (HYes2.out rfl hm)
     have hmz : ((m : Int) == 0) = false := beq_eq_false_iff_ne.2 (by omega)
     have hmz2 : (m == 0) = false := beq_eq_false_iff_ne.2 (by omega)
     go_wp2_with fail
     go_roundw
     case rel => exact ⟨i + 1, by omega, by go_num, HB5.out, by rw [HT.out]; exact HO5.out, HF.out⟩
     case measure => simp [intOf]; omega
  ·obtain rfl : i = n := by omega
   have hiz : ¬ (i : Int) < (i : Int) := by omega
   have HO2 : Hid (OwnI w.heap.size wr u3 (L.map Pg.doc)) := by
    have := HO.out
    rw [List.take_of_length_le (by rw [List.length_map, HN.out]; exact Nat.le_refl _)] at this
    exact this
   have HE : Hid (decide (Rise (L.map Pg.doc) 500) = q) := by
    have hg := HG.out
    rw [List.take_of_length_le (by rw [HN.out]; exact Nat.le_refl _)] at hg
    show _ = _
    rw [<- HQ.out, decide_eq_decide]
    exact ⟨fun h => ⟨hg, h⟩, fun h => h.2⟩
   have CR := Lib.hid (rising_any (L.map Pg.doc) 500 u3 wr HO2.out.sl (by rw [List.length_map, HN.out]; unfold maxLen; omega))
   rw [HE.out] at CR
   go_wp2_with fail
   refine CR.out.mono ?_
   rintro e w5 ⟨rfl, hb5⟩
   go_wp2_with fail
   go_ret
   exact ⟨rfl, HB.out.trans (hb5.mono HB.out.size)⟩
end Go.Proofs.Ytjcajeilhcjneaa.Po
/- Chapter 2's examples: the statements' own helper 'shown' answers true, and changes nothing that was there. -/
namespace Go.Proofs.Ytjcajeilhcjneaa.Fr
open Go.RowKit
section
variable (W : World)
end
end Go.Proofs.Ytjcajeilhcjneaa.Fr
/- WireNumbers answers true for every three numbers and every text, and changes nothing that was there: the walk. -/
namespace Go.Proofs.Ytjcajeilhcjneaa.Fr
open Go.RowKit
theorem bs_cat (l m : List UInt8) : bs l ++ bs m = bs (l ++ m) := by
 apply ByteArray.ext
 rw [ByteArray.data_append]
 unfold bs
 simp
end Go.Proofs.Ytjcajeilhcjneaa.Fr
/- What the program's Right of postings answers. -/
set_option maxRecDepth 100000
namespace Go.Proofs.Ytjcajeilhcjneaa.Po
open Go.RowKit
def aheadI (L : List Int) (i : Nat) : Int := (L.take i).getLast?.getD (-1)
theorem ahead_zero (L : List Int) : aheadI L 0 = -1 := rfl
theorem ahead_succ {L : List Int} {i : Nat} (h : i < L.length) : aheadI L (i + 1) = L[i] := by
 unfold aheadI
 rw [List.take_succ_eq_append_getElem h, List.getLast?_concat]
 rfl
theorem ahead_pos {L : List Int} {i : Nat} (h : i < L.length) (hp : 0 < i) : aheadI L i = L[i - 1] := by
 have := ahead_succ (L := L) (i := i - 1) (by omega)
 rwa [show i - 1 + 1 = i by omega] at this
theorem ahead_rise {L : List Int} {b : Int} {i : Nat} (h : Rise (L.take i) b) : -1 <= aheadI L i /\ aheadI L i < max b 0 := by
 unfold aheadI
 cases e : (L.take i).getLast? with
 | none => simp; omega
 | some x =>
  have := h.1 x (List.mem_of_getLast? e)
  simp
  omega
theorem rise_next {L : List Int} {b : Int} {i : Nat} (h : Rise (L.take i) b) (hi : i < L.length) (h1 : L[i] < b) (h2 : aheadI L i < L[i]) : Rise (L.take (i + 1)) b :=
 rise_step h hi (by have := (ahead_rise h).1; omega) h1 fun hp => by rw [<- ahead_pos hi hp]; exact h2
theorem rise_stop {L : List Int} {b : Int} {i : Nat} (hi : i < L.length) (h : L[i] <= aheadI L i \/ b <= L[i]) : ¬ Rise L b := by
 rcases h with h | h
 ·by_cases hp : 0 < i
  ·exact rise_not hi (.inr (.inr ⟨hp, by rw [<- ahead_pos hi hp]; exact h⟩))
  ·obtain rfl : i = 0 := by omega
   rw [ahead_zero] at h
   exact rise_not hi (.inl (by omega))
 ·exact rise_not hi (.inr (.inl h))
set_option maxHeartbeats 4000000 in
theorem pplaces_any (L : List Int) (v : Value) (w : World) (h : SlI w v L) (hn : L.length <= maxLen) : Calls Try.prog 24 #[v] w fun e w' => e = .returned (.bool (decide (Rise L 2000))) /\ Below w.heap.size w w' := by
 obtain ⟨ao, c, rfl, _, hc⟩ := h
 have HC := Lib.hid hc
 obtain ⟨n, hl⟩ : ∃ n, L.length = n := ⟨_, rfl⟩
 have HN := Lib.hid hl
 have hnm : n <= 9223372036854775807 := by rw [<- hl]; unfold maxLen at hn; exact hn
 obtain ⟨q, hq⟩ : ∃ q, decide (Rise L 2000) = q := ⟨_, rfl⟩
 have HQ := Lib.hid hq
 rw [hl, hq]
 clear hl hc hn hq
 go_enter Try.func24, Try.ntmps24
 go_wp2_with fail
 go_loopw [3, 8] (fun lv iv wr => ∃ i : Nat, i <= n /\ iv = .int .i64 (i : Int) /\ lv = .int .i64 (aheadI L i) /\ Hid (Below w.heap.size w wr) /\ Hid (Rise (L.take i) 2000)) (fun _ iv _ => n - (intOf iv).toNat)
 case atStart => exact ⟨0, Nat.zero_le _, rfl, rfl, Below.refl _ _, ⟨by simp, by simp⟩⟩
 case round =>
  obtain ⟨i, hi, rfl, rfl, HB, HR⟩ := hrel
  by_cases hlt : i < n
  ·have hiz : (i : Int) < (n : Int) := by omega
   have hiL : i < L.length := by rw [HN.out]; exact hlt
   obtain ⟨g, off, rfl, hg, h1⟩ := HC.out i hiL
   have x1 := (HB.out.cell (p := ⟨g, _, none⟩) hg).trans h1
   have HNo : Hid (L[i] <= aheadI L i \/ 2000 <= L[i] -> q = false) := fun h => by
    rw [<- HQ.out]; exact decide_eq_false (rise_stop hiL h)
   have HYes : Hid (L[i] < 2000 -> aheadI L i < L[i] -> Rise (L.take (i + 1)) 2000) := fun h1 h2 => rise_next HR.out hiL h1 h2
   have HA : Hid (aheadI L (i + 1) = L[i]) := ahead_succ hiL
   clear h1 hg
   generalize L[i] = x at *
   generalize aheadI L i = y at *
   have h3 : 0 <= (i : Int) := by omega
   have h4 : (i : Int).toNat = i := rfl
   by_cases z0 : x <= y
   ·have b0 : decide (x <= y) = true := decide_eq_true z0
    have HF := Lib.hid (HNo.out (.inl z0))
    go_wp2_with fail
    go_ret
    exact ⟨congrArg (fun b => Ending.returned (.bool b)) HF.out.symm, HB.out⟩
   ·have b0 : decide (x <= y) = false := decide_eq_false z0
    by_cases z1 : 2000 <= x
    ·have b1 : decide (2000 <= x) = true := decide_eq_true z1
     have HF := Lib.hid (HNo.out (.inr z1))
     go_wp2_with fail
     go_ret
     exact ⟨congrArg (fun b => Ending.returned (.bool b)) HF.out.symm, HB.out⟩
    ·have b1 : decide (2000 <= x) = false := decide_eq_false z1
     have HF := Lib.hid (HYes.out (by omega) (by omega))
     go_wp2_with fail
     go_roundw
     case rel => exact ⟨i + 1, by omega, by go_num, by rw [HA.out], HB.out, HF.out⟩
     case measure => simp [intOf]; omega
  ·obtain rfl : i = n := by omega
   have hiz : ¬ (i : Int) < (i : Int) := by omega
   have HF : Hid (q = true) := by
    have := HR.out
    rw [List.take_of_length_le (by rw [HN.out]; exact Nat.le_refl _)] at this
    show _ = _
    rw [<- HQ.out]; exact decide_eq_true this
   go_wp2_with fail
   go_ret
   exact ⟨congrArg (fun b => Ending.returned (.bool b)) HF.out.symm, HB.out⟩
set_option maxHeartbeats 4000000 in
theorem pright_any (L : List Pg) (v : Value) (w : World) (h : SlP w v L) (hn : L.length <= maxLen) (hp : ∀ p ∈ L, p.pos.length <= maxLen) : Calls Try.prog 13 #[v] w fun e w' => e = .returned (.bool (decide (RightG L))) /\ Below w.heap.size w w' := by
 obtain ⟨ao, c, rfl, _, hc⟩ := h
 have HC := Lib.hid hc
 have HPL := Lib.hid hp
 obtain ⟨n, hl⟩ : ∃ n, L.length = n := ⟨_, rfl⟩
 have HN := Lib.hid hl
 have hnm : n <= 9223372036854775807 := by rw [<- hl]; unfold maxLen at hn; exact hn
 obtain ⟨q, hq⟩ : ∃ q, decide (RightG L) = q := ⟨_, rfl⟩
 have HQ := Lib.hid hq
 rw [hl, hq]
 clear hl hc hp hq hn
 go_enter Try.func13, Try.ntmps13
 go_wp2_with fail
 go_loopw [3, 8] (fun lv iv wr => ∃ i : Nat, i <= n /\ iv = .int .i64 (i : Int) /\ lv = .int .i64 (aheadI (L.map Pg.doc) i) /\ Hid (Below w.heap.size w wr) /\ Hid (Rise ((L.map Pg.doc).take i) 500) /\ Hid (∀ p ∈ L.take i, Rise p.pos 2000 /\ p.pos ≠ [])) (fun _ iv _ => n - (intOf iv).toNat)
 case atStart => exact ⟨0, Nat.zero_le _, rfl, rfl, Below.refl _ _, ⟨by simp, by simp⟩, fun p hp => by simp at hp⟩
 case round =>
  obtain ⟨i, hi1, rfl, rfl, HB, HO, HG⟩ := hrel
  by_cases hlt : i < n
  ·have hiz : (i : Int) < (n : Int) := by omega
   have hiL : i < L.length := by rw [HN.out]; exact hlt
   have hiM : i < (L.map Pg.doc).length := by rw [List.length_map]; exact hiL
   obtain ⟨g, off, ve, rfl, hg, h1, h2, h3'⟩ := HC.out i hiL
   have x1 := (HB.out.cell (p := ⟨g, _, none⟩) hg).trans h1
   have x2 := (HB.out.cell (p := ⟨g, _, none⟩) hg).trans h2
   have hgr : g < wr.heap.size := Nat.lt_of_lt_of_le hg HB.out.size
   have HS := Lib.hid h3'
   have hdoc : (L.map Pg.doc)[i] = L[i].doc := List.getElem_map ..
   have HNo : Hid (L[i].doc <= aheadI (L.map Pg.doc) i \/ 500 <= L[i].doc \/ ¬ (Rise L[i].pos 2000 /\ L[i].pos ≠ []) -> q = false) := fun h => by
    rw [<- HQ.out]
    refine decide_eq_false fun hr => ?_
    rcases h with h | h | h
    ·exact rise_stop hiM (.inl (by rw [hdoc]; exact h)) hr.2
    ·exact rise_stop hiM (.inr (by rw [hdoc]; exact h)) hr.2
    ·exact h (hr.1 L[i] (List.getElem_mem hiL))
   have HYes : Hid (Rise L[i].pos 2000 -> L[i].pos ≠ [] -> ∀ p ∈ L.take (i + 1), Rise p.pos 2000 /\ p.pos ≠ []) := fun h h' p hp => by
    rw [List.take_succ_eq_append_getElem hiL] at hp
    rcases List.mem_append.1 hp with hp | hp
    ·exact HG.out p hp
    ·rw [List.mem_singleton.1 hp]; exact ⟨h, h'⟩
   have HYes1 : Hid (L[i].doc < 500 -> aheadI (L.map Pg.doc) i < L[i].doc -> Rise ((L.map Pg.doc).take (i + 1)) 500) := fun h1 h2 => rise_next HO.out hiM (by rw [hdoc]; exact h1) (by rw [hdoc]; exact h2)
   have HA : Hid (aheadI (L.map Pg.doc) (i + 1) = L[i].doc) := by show _ = _; rw [ahead_succ hiM, hdoc]
   have hpl := HPL.out L[i] (List.getElem_mem hiL)
   have CR := Lib.hid (fun W (hW : Below w.heap.size w W) => pplaces_any L[i].pos ve W (HS.out.below hW) hpl)
   obtain ⟨m, hm⟩ : ∃ m, L[i].pos.length = m := ⟨_, rfl⟩
   have HVe : Hid (∃ ao' c', ve = .slice ao' m c') := by
    obtain ⟨ao', c', hv', _⟩ := h3'
    rw [hm] at hv'
    exact ⟨ao', c', hv'⟩
   obtain ⟨b, hb⟩ : ∃ b, decide (Rise L[i].pos 2000) = b := ⟨_, rfl⟩
   rw [hb] at CR
   have HBt : Hid (b = true -> Rise L[i].pos 2000) := fun h => of_decide_eq_true (hb.trans h)
   have HBf : Hid (b = false -> ¬ Rise L[i].pos 2000) := fun h => of_decide_eq_false (hb.trans h)
   have HM : Hid (m = 0 ↔ L[i].pos = []) := by rw [<- hm]; exact List.length_eq_zero_iff
   clear h1 h2 h3' hm hpl HS hb hdoc hg hiM
   generalize L[i].doc = d at *
   generalize aheadI (L.map Pg.doc) i = y at *
   obtain ⟨ao', c', rfl⟩ := HVe.out
   have h3 : 0 <= (i : Int) := by omega
   have h4 : (i : Int).toNat = i := rfl
   by_cases z0 : d <= y
   ·have b0 : decide (d <= y) = true := decide_eq_true z0
    have HF := Lib.hid (HNo.out (.inl z0))
    go_wp2_with fail
    go_ret
    exact ⟨congrArg (fun b => Ending.returned (.bool b)) HF.out.symm, HB.out.alloc HB.out.size _⟩
   ·have b0 : decide (d <= y) = false := decide_eq_false z0
    by_cases z1 : 500 <= d
    ·have b1 : decide (500 <= d) = true := decide_eq_true z1
     have HF := Lib.hid (HNo.out (.inr (.inl z1)))
     go_wp2_with fail
     go_ret
     exact ⟨congrArg (fun b => Ending.returned (.bool b)) HF.out.symm, HB.out.alloc HB.out.size _⟩
    ·have b1 : decide (500 <= d) = false := decide_eq_false z1
     by_cases z2 : m = 0
     ·have HF := Lib.hid (HNo.out (.inr (.inr fun h => h.2 (HM.out.1 z2))))
      subst z2
      go_wp2_with fail
      go_ret
      exact ⟨congrArg (fun b => Ending.returned (.bool b)) HF.out.symm, HB.out.alloc HB.out.size _⟩
     ·have hmz : ((m : Int) == 0) = false := beq_eq_false_iff_ne.2 (by omega)
      have hmz2 : (m == 0) = false := beq_eq_false_iff_ne.2 (by omega)
      have HB1 := Lib.hid (HB.out.alloc HB.out.size (.cells #[.int .i64 d, .slice ao' m c'] 37))
      have CR1 := Lib.hid (CR.out _ HB1.out)
      clear CR
      go_wp2_with fail
      refine CR1.out.mono ?_
      rintro e w5 ⟨rfl, hb5⟩
      have HB5 := Lib.hid (HB1.out.trans (hb5.mono HB1.out.size))
      have y0 : w5.cell? ⟨wr.heap.size, 0, none⟩ = some (.int .i64 d) := by
       rw [hb5.cell (p := ⟨wr.heap.size, 0, none⟩) (by simp), cell_atP (heap_newP ..)]; rfl
      clear hb5 CR1
      cases b with
      | false =>
       have HF := Lib.hid (HNo.out (.inr (.inr fun h => HBf.out rfl h.1)))
       go_wp2_with fail
       go_ret
       exact ⟨congrArg (fun b => Ending.returned (.bool b)) HF.out.symm, HB5.out⟩
      | true =>
       have HF := Lib.hid (HYes.out (HBt.out rfl) (fun h => z2 (HM.out.2 h)))
       have HF1 := Lib.hid (HYes1.out (by omega) (by omega))
       go_wp2_with fail
       go_roundw
       case rel => exact ⟨i + 1, by omega, by go_num, by rw [HA.out], HB5.out, HF1.out, HF.out⟩
       case measure => simp [intOf]; omega
  ·obtain rfl : i = n := by omega
   have hiz : ¬ (i : Int) < (i : Int) := by omega
   have HE : Hid (q = true) := by
    have hg := HG.out
    have ho := HO.out
    rw [List.take_of_length_le (by rw [HN.out]; exact Nat.le_refl _)] at hg
    rw [List.take_of_length_le (by rw [List.length_map, HN.out]; exact Nat.le_refl _)] at ho
    show _ = _
    rw [<- HQ.out]
    exact decide_eq_true ⟨hg, ho⟩
   go_wp2_with fail
   go_ret
   exact ⟨congrArg (fun b => Ending.returned (.bool b)) HE.out.symm, HB.out⟩
end Go.Proofs.Ytjcajeilhcjneaa.Po

/- Numbers and texts read: what ToVar and ToText answer, and the document's own: the same. -/
import Derived.Test.YtjfclpicoamfaaaZWFix
import Derived.Deep.RegionWith
import Derived.IntWalk

set_option maxRecDepth 100000
namespace Go.Proofs.Ytjfclpicoamfaaa.Fr
open Go.RowKit
theorem ext_drop (s : ByteArray) (n : Nat) : s.extract n s.size = bs (s.data.toList.drop n) := by
 apply ByteArray.ext
 rw [ByteArray.data_extract]
 unfold bs
 apply Array.ext'
 rw [Array.toList_extract]
 simp only [List.extract_eq_take_drop]
 exact List.take_of_length_le (by rw [List.length_drop, Array.length_toList]; exact Nat.le_refl _)
theorem ext_take (s : ByteArray) (n : Nat) : s.extract 0 n = bs (s.data.toList.take n) := by
 apply ByteArray.ext
 rw [ByteArray.data_extract]
 unfold bs
 apply Array.ext'
 simp
theorem bs_inj {l m : List UInt8} (h : bs l = bs m) : l = m := by
 have := congrArg (fun b : ByteArray => b.data.toList) h
 exact this
theorem below_predrew {B : Nat} {w w1 : World} (h : Below B w.drew w1) : Below B w w1 := (Below.refl B w).drew.trans h
theorem toVar_yes {s : ByteArray} {v : Nat} {r : List UInt8} (w : World) (hs : s.size <= maxLen) (h : rdV s.data.toList = some (v, r)) :
  Calls Try.prog 46 #[.string s] w fun e w' => e = .returned (.tuple #[.int .u64 (v : Int), .string (bs r), .bool true]) /\ Below w.heap.size w w' := by
 obtain ⟨_, _, h3, _, _, h6, h7⟩ := rdV_some h
 refine (toVar_some s _ w hs rfl h3).mono fun e w' ⟨he, hb⟩ => ⟨?_, hb⟩
 rw [he, ext_drop, <- h6, <- h7]
theorem toVar_no {s : ByteArray} (w : World) (hs : s.size <= maxLen) (h : rdV s.data.toList = none) :
  Calls Try.prog 46 #[.string s] w fun e w' => e = .returned (.tuple #[.int .u64 0, .string ⟨#[]⟩, .bool false]) /\ Below w.heap.size w w' :=
 toVar_none s w hs (rdV_none h)
theorem next_v (s : ByteArray) (k v p : Nat) (hs : k < s.size) (hv : valL (s.data.toList.take k) % 18446744073709551616 = v) (hp : 128 ^ k % 18446744073709551616 = p) :
  IntKind.u64.wrap ((v : Int) + IntKind.u64.wrap ((s[k].toNat : Int) % 128 * (p : Int))) = ((valL (s.data.toList.take (k + 1)) % 18446744073709551616 : Nat) : Int) := by
 have hlen : (s.data.toList.take k).length = k := by simp; omega
 have hsn := valL_snoc (s.data.toList.take k) s[k]
 rw [hlen] at hsn
 rw [take_snoc s k hs, hsn, IntKind.wrap_u64, IntKind.wrap_u64, <- hv, <- hp]
 have e : ((s[k].toNat : Int) % 128 * ((128 ^ k % 18446744073709551616 : Nat) : Int)) = ((s[k].toNat % 128 * (128 ^ k % 18446744073709551616) : Nat) : Int) := by rw [Int.natCast_mul]; rfl
 rw [e]
 have e2 : s[k].toNat % 128 * (128 ^ k % 18446744073709551616) % 18446744073709551616 = s[k].toNat % 128 * 128 ^ k % 18446744073709551616 := by rw [Nat.mul_mod, Nat.mod_mod, <- Nat.mul_mod]
 omega
theorem next_p (k p : Nat) (hp : 128 ^ k % 18446744073709551616 = p) : IntKind.u64.wrap ((p : Int) * 128) = ((128 ^ (k + 1) % 18446744073709551616 : Nat) : Int) := by
 rw [IntKind.wrap_u64, <- hp, Nat.pow_succ]
 omega
set_option maxHeartbeats 1000000 in
theorem rtoVar_any (s : ByteArray) (w : World) (R : Ending -> World -> Prop)
  (hno : vsz 0 s.data.toList = 0 -> ∀ w', Below w.heap.size w w' -> R (.returned (.tuple #[.int .u64 0, .string ⟨#[]⟩, .bool false])) w')
  (hyes : ∀ n, vsz 0 s.data.toList = n -> n ≠ 0 -> ∀ w', Below w.heap.size w w' -> R (.returned (.tuple #[.int .u64 ((valL (s.data.toList.take n) : Nat) : Int), .string (s.extract n s.size), .bool true])) w') :
  Calls Try.prog 30 #[.string s] w R := by
 have HNO := Lib.hid hno; clear hno
 have HYES := Lib.hid hyes; clear hyes
 go_enter Try.func30, Try.ntmps30
 go_wp2
 go_loopw [5, 6, 7] (fun v p i wr => ∃ k : Nat, k <= s.size /\ k <= 10 /\ i = .int .i64 k /\ v = .int .u64 ((valL (s.data.toList.take k) % 18446744073709551616 : Nat) : Int) /\ p = .int .u64 ((128 ^ k % 18446744073709551616 : Nat) : Int) /\ Hid (vsz 0 s.data.toList = vsz k (s.data.toList.drop k)) /\ w = wr) (fun _ _ i _ => 10 - (intOf i).toNat)
 case atStart => exact ⟨0, Nat.zero_le _, Nat.zero_le _, rfl, rfl, rfl, rfl, rfl⟩
 case round =>
  obtain ⟨k, hk, hk10, rfl, rfl, rfl, HV, rfl⟩ := hrel
  by_cases hlt : k < s.size /\ k < 10
  ·obtain ⟨hks, hkt⟩ := hlt
   have hbl := byte_lt s[k]
   obtain ⟨v, hv⟩ : ∃ v, valL (s.data.toList.take k) % 18446744073709551616 = v := ⟨_, rfl⟩
   obtain ⟨p, hp⟩ : ∃ p, 128 ^ k % 18446744073709551616 = p := ⟨_, rfl⟩
   have hvl : v < 18446744073709551616 := by rw [<- hv]; exact Nat.mod_lt _ (by omega)
   have hpl : p < 18446744073709551616 := by rw [<- hp]; exact Nat.mod_lt _ (by omega)
   rw [hv, hp]
   have HNV := Lib.hid (next_v s k v p hks hv hp)
   have HNP := Lib.hid (next_p k p hp)
   clear hv hp
   by_cases hb : 128 <= s[k].toNat
   ·have HN : Hid (vsz 0 s.data.toList = vsz (k + 1) (s.data.toList.drop (k + 1))) := by
     show _ = _; rw [HV.out, vsz_step _ k (by simpa using hks) (by omega) (by rw [getB s k hks]; exact hb)]
    go_wp2
    go_roundw
    case rel => exact ⟨k + 1, by omega, by omega, by go_num, ret_u32 HNV.out, ret_u32 HNP.out, HN, trivial⟩
    case measure => simp [intOf]; omega
   ·have HN : Hid (vsz 0 s.data.toList = if (0 < k /\ s[k].toNat = 0) \/ (k = 9 /\ 1 < s[k].toNat) then 0 else k + 1) := by
     show _ = _; rw [HV.out, vsz_last _ k (by simpa using hks) (by omega) (by rw [getB s k hks]; omega), getB s k hks]
    obtain ⟨y, hy⟩ : ∃ y, valL (s.data.toList.take (k + 1)) % 18446744073709551616 = y := ⟨_, rfl⟩
    have hyl : y < 18446744073709551616 := by rw [<- hy]; exact Nat.mod_lt _ (by omega)
    rw [hy] at HNV
    have HY := Lib.hid hy; clear hy
    have q1 : (0 : Int) <= (k : Int) + 1 := by omega
    have q2 : (k : Int) + 1 <= (s.size : Int) := by omega
    have q3 : k + 1 <= s.size := by omega
    have q4 : IntKind.i64.wrap ((k : Int) + 1) = (k : Int) + 1 := IntWalk.i64_in _ (by omega)
    have q5 : ((k : Int) + 1).toNat = k + 1 := by omega
    by_cases hc : (0 < k /\ s[k].toNat = 0) \/ (k = 9 /\ 1 < s[k].toNat)
    ·have HZ : Hid (vsz 0 s.data.toList = 0) := by show _ = _; rw [HN.out, if_pos hc]
     have hq : (!((bs (varL y)).toList == (s.extract 0 (k + 1)).toList)) = true := by
      rw [str_diff]; rfl
      rw [ext_take]
      intro h
      have := rd_again s.data.toList k HZ.out
      rw [HY.out] at this
      exact this (bs_inj h)
     clear hc
     go_wp2
     rw [HNV.out]
     go_region_with (go_at_call 42; refine (rvar_any y _ hyl).mono ?_; rintro e w1 ⟨rfl, hb1⟩; have HB1 := Lib.hid hb1; clear hb1)
     simp only [Act.put, List.getElem_toArray, List.getElem_cons_succ, List.getElem_cons_zero, List.setIfInBounds_toArray, List.set_cons_succ, List.set_cons_zero]
     go_wp2
     go_ret3
     exact HNO.out HZ.out _ (below_predrew HB1.out)
    ·have HZ : Hid (vsz 0 s.data.toList = k + 1) := by show _ = _; rw [HN.out, if_neg hc]
     have hyy := rd_again' s.data.toList (by rw [HZ.out]; omega)
     rw [HZ.out, HY.out] at hyy
     have HYV : Hid (y = valL (s.data.toList.take (k + 1))) := hyy.2
     have hq : (!((bs (varL y)).toList == (s.extract 0 (k + 1)).toList)) = false := by
      rw [str_same]; rfl
      rw [ext_take, hyy.1]
     clear hc hyy
     go_wp2
     rw [HNV.out]
     go_region_with (go_at_call 42; refine (rvar_any y _ hyl).mono ?_; rintro e w1 ⟨rfl, hb1⟩; have HB1 := Lib.hid hb1; clear hb1)
     simp only [Act.put, List.getElem_toArray, List.getElem_cons_succ, List.getElem_cons_zero, List.setIfInBounds_toArray, List.set_cons_succ, List.set_cons_zero]
     go_wp2
     go_quiet (fail)
     go_wp2
     go_ret3
     have := HYES.out (k + 1) HZ.out (by omega)
     rw [<- HYV.out] at this
     exact this _ (below_drewN (below_predrew HB1.out) _)
  ·have HZ : Hid (vsz 0 s.data.toList = 0) := by
    show _ = _; rw [HV.out]; apply vsz_end
    have e : s.data.toList.length = s.size := by simp
    omega
   by_cases hks : k < s.size
   ·have hk10' : (10 : Int) <= (k : Int) := by omega
    clear hlt
    go_wp2
    go_ret3
    exact HNO.out HZ.out _ (Below.refl _ _)
   ·clear hlt
    go_wp2
    go_ret3
    exact HNO.out HZ.out _ (Below.refl _ _)
theorem rtoVar_yes {s : ByteArray} {v : Nat} {r : List UInt8} (w : World) (_hs : s.size <= maxLen) (h : rdV s.data.toList = some (v, r)) :
  Calls Try.prog 30 #[.string s] w fun e w' => e = .returned (.tuple #[.int .u64 (v : Int), .string (bs r), .bool true]) /\ Below w.heap.size w w' := by
 obtain ⟨_, _, h3, _, _, h6, h7⟩ := rdV_some h
 refine rtoVar_any s w _ (fun h0 => absurd h0 h3) ?_
 rintro n rfl _ w' hb
 refine ⟨?_, hb⟩
 rw [ext_drop, <- h6, <- h7]
theorem rtoVar_no {s : ByteArray} (w : World) (_hs : s.size <= maxLen) (h : rdV s.data.toList = none) :
  Calls Try.prog 30 #[.string s] w fun e w' => e = .returned (.tuple #[.int .u64 0, .string ⟨#[]⟩, .bool false]) /\ Below w.heap.size w w' := by
 refine rtoVar_any s w _ (fun _ w' hb => ⟨rfl, hb⟩) ?_
 rintro n rfl h0
 exact absurd (rdV_none h) h0
theorem rdT_of {l : List UInt8} {n : Nat} {q : List UInt8} (h : rdV l = some (n, q)) : rdT l = if n <= q.length then some (q.take n, q.drop n) else none := by
 unfold rdT; rw [h]
theorem rest_le {l : List UInt8} {n : Nat} {q : List UInt8} (h : rdV l = some (n, q)) : q.length <= l.length := by
 obtain ⟨_, _, _, _, _, _, h7⟩ := rdV_some h
 rw [h7, List.length_drop]; omega
set_option maxHeartbeats 1000000 in
theorem toText_no {s : ByteArray} (w : World) (hs : s.size <= maxLen) (h : rdT s.data.toList = none) :
  Calls Try.prog 49 #[.string s] w fun e w' => e = .returned (.tuple #[.string ⟨#[]⟩, .string ⟨#[]⟩, .bool false]) /\ Below w.heap.size w w' := by
 cases hv : rdV s.data.toList with
 | none =>
  have C := Lib.hid (toVar_no w hs hv)
  clear hv h
  go_enter Try.func49, Try.ntmps49
  go_wp2_with fail
  refine C.out.mono ?_
  rintro e w1 ⟨rfl, hb1⟩
  have HB := Lib.hid hb1; clear hb1 C
  go_wp2
  go_ret3
  exact ⟨rfl, HB.out⟩
 | some p =>
  obtain ⟨n, q⟩ := p
  have C := Lib.hid (toVar_yes w hs hv)
  have hn : q.length < n := by
   rw [rdT_of hv] at h
   apply Decidable.byContradiction
   intro hh
   rw [if_pos (by omega)] at h
   cases h
  have hq := rest_le hv
  rw [str_len] at hq
  have hn2 := (rdV_some hv).2.1
  have hQ := bs_size q
  unfold maxLen at hs
  obtain ⟨Q, hQQ⟩ : ∃ Q, bs q = Q := ⟨_, rfl⟩
  rw [hQQ] at C hQ
  have hQn : Q.size < n := by omega
  have hQs : Q.size <= s.size := by omega
  clear hv h hQQ hn hq hQ
  go_enter Try.func49, Try.ntmps49
  go_wp2_with fail
  refine C.out.mono ?_
  rintro e w1 ⟨rfl, hb1⟩
  have HB := Lib.hid hb1; clear hb1 C
  go_wp2
  go_ret3
  exact ⟨rfl, HB.out⟩
set_option maxHeartbeats 1000000 in
theorem toText_yes {s : ByteArray} {t r : List UInt8} (w : World) (hs : s.size <= maxLen) (h : rdT s.data.toList = some (t, r)) :
  Calls Try.prog 49 #[.string s] w fun e w' => e = .returned (.tuple #[.string (bs t), .string (bs r), .bool true]) /\ Below w.heap.size w w' := by
 cases hv : rdV s.data.toList with
 | none => unfold rdT at h; rw [hv] at h; cases h
 | some p =>
  obtain ⟨n, q⟩ := p
  have C := Lib.hid (toVar_yes w hs hv)
  rw [rdT_of hv] at h
  have hn : n <= q.length := by
   apply Decidable.byContradiction
   intro hh
   rw [if_neg hh] at h
   cases h
  rw [if_pos hn] at h
  have hq := rest_le hv
  rw [str_len] at hq
  have hn2 := (rdV_some hv).2.1
  have hQ := bs_size q
  unfold maxLen at hs
  obtain ⟨Q, hQQ⟩ : ∃ Q, bs q = Q := ⟨_, rfl⟩
  have HT : Hid (Q.extract 0 n = bs t) := by show _ = _; cases h; rw [<- hQQ, ext_take]; rfl
  have HR : Hid (Q.extract n Q.size = bs r) := by show _ = _; cases h; rw [<- hQQ, ext_drop]; rfl
  rw [hQQ] at C hQ
  have hQn : n <= Q.size := by omega
  have hQs : Q.size <= s.size := by omega
  have hQi : (n : Int) <= (Q.size : Int) := by omega
  have hn0 : (0 : Int) <= (n : Int) := by omega
  clear hv h hQQ hn hq hQ
  go_enter Try.func49, Try.ntmps49
  go_wp2_with fail
  refine C.out.mono ?_
  rintro e w1 ⟨rfl, hb1⟩
  have HB := Lib.hid hb1; clear hb1 C
  go_wp2
  go_quiet (fail)
  go_wp2
  go_ret3
  exact ⟨by rw [<- HT.out, <- HR.out]; rfl, below_drewN HB.out _⟩
set_option maxHeartbeats 1000000 in
theorem rtoText_no {s : ByteArray} (w : World) (hs : s.size <= maxLen) (h : rdT s.data.toList = none) :
  Calls Try.prog 31 #[.string s] w fun e w' => e = .returned (.tuple #[.string ⟨#[]⟩, .string ⟨#[]⟩, .bool false]) /\ Below w.heap.size w w' := by
 cases hv : rdV s.data.toList with
 | none =>
  have C := Lib.hid (rtoVar_no w hs hv)
  clear hv h
  go_enter Try.func31, Try.ntmps31
  go_wp2_with fail
  refine C.out.mono ?_
  rintro e w1 ⟨rfl, hb1⟩
  have HB := Lib.hid hb1; clear hb1 C
  go_wp2
  go_ret3
  exact ⟨rfl, HB.out⟩
 | some p =>
  obtain ⟨n, q⟩ := p
  have C := Lib.hid (rtoVar_yes w hs hv)
  have hn : q.length < n := by
   rw [rdT_of hv] at h
   apply Decidable.byContradiction
   intro hh
   rw [if_pos (by omega)] at h
   cases h
  have hq := rest_le hv
  rw [str_len] at hq
  have hn2 := (rdV_some hv).2.1
  have hQ := bs_size q
  unfold maxLen at hs
  obtain ⟨Q, hQQ⟩ : ∃ Q, bs q = Q := ⟨_, rfl⟩
  rw [hQQ] at C hQ
  have hQn : Q.size < n := by omega
  have hQs : Q.size <= s.size := by omega
  clear hv h hQQ hn hq hQ
  go_enter Try.func31, Try.ntmps31
  go_wp2_with fail
  refine C.out.mono ?_
  rintro e w1 ⟨rfl, hb1⟩
  have HB := Lib.hid hb1; clear hb1 C
  go_wp2
  go_ret3
  exact ⟨rfl, HB.out⟩
set_option maxHeartbeats 1000000 in
theorem rtoText_yes {s : ByteArray} {t r : List UInt8} (w : World) (hs : s.size <= maxLen) (h : rdT s.data.toList = some (t, r)) :
  Calls Try.prog 31 #[.string s] w fun e w' => e = .returned (.tuple #[.string (bs t), .string (bs r), .bool true]) /\ Below w.heap.size w w' := by
 cases hv : rdV s.data.toList with
 | none => unfold rdT at h; rw [hv] at h; cases h
 | some p =>
  obtain ⟨n, q⟩ := p
  have C := Lib.hid (rtoVar_yes w hs hv)
  rw [rdT_of hv] at h
  have hn : n <= q.length := by
   apply Decidable.byContradiction
   intro hh
   rw [if_neg hh] at h
   cases h
  rw [if_pos hn] at h
  have hq := rest_le hv
  rw [str_len] at hq
  have hn2 := (rdV_some hv).2.1
  have hQ := bs_size q
  unfold maxLen at hs
  obtain ⟨Q, hQQ⟩ : ∃ Q, bs q = Q := ⟨_, rfl⟩
  have HT : Hid (Q.extract 0 n = bs t) := by show _ = _; cases h; rw [<- hQQ, ext_take]; rfl
  have HR : Hid (Q.extract n Q.size = bs r) := by show _ = _; cases h; rw [<- hQQ, ext_drop]; rfl
  rw [hQQ] at C hQ
  have hQn : n <= Q.size := by omega
  have hQs : Q.size <= s.size := by omega
  have hQi : (n : Int) <= (Q.size : Int) := by omega
  have hn0 : (0 : Int) <= (n : Int) := by omega
  clear hv h hQQ hn hq hQ
  go_enter Try.func31, Try.ntmps31
  go_wp2_with fail
  refine C.out.mono ?_
  rintro e w1 ⟨rfl, hb1⟩
  have HB := Lib.hid hb1; clear hb1 C
  go_wp2
  go_quiet (fail)
  go_wp2
  go_ret3
  exact ⟨by rw [<- HT.out, <- HR.out]; rfl, below_drewN HB.out _⟩
end Go.Proofs.Ytjfclpicoamfaaa.Fr
/- Chapter 2's examples: the statements' own helper 'shown' answers true, and changes nothing that was there. -/
namespace Go.Proofs.Ytjfclpicoamfaaa.Fr
open Go.RowKit
section
variable (W : World)
end
end Go.Proofs.Ytjfclpicoamfaaa.Fr
/- WireNumbers answers true for every three numbers and every text, and changes nothing that was there: the walk. -/
namespace Go.Proofs.Ytjfclpicoamfaaa.Fr
open Go.RowKit
theorem bs_cat (l m : List UInt8) : bs l ++ bs m = bs (l ++ m) := by
 apply ByteArray.ext
 rw [ByteArray.data_append]
 unfold bs
 simp
end Go.Proofs.Ytjfclpicoamfaaa.Fr

/- Numbers and texts read: what ToVar and ToText answer, and the document's own: the same. -/
import Derived.Test.YtjfclpicoamfaaaZWFix
import Derived.Deep.RegionWith
import Derived.IntWalk

set_option maxRecDepth 100000
namespace Go.Proofs.Ytjfclpicoamfaaa.Fr
open Go.RowKit
theorem ext_drop (s : ByteArray) (n : Nat) : s.extract n s.size = bs (s.data.toList.drop n) := by
 apply ByteArray.ext
 rw [ByteArray.data_extract]
 unfold bs
 apply Array.ext'
 rw [Array.toList_extract]
 simp only [List.extract_eq_take_drop]
 exact List.take_of_length_le (by rw [List.length_drop, Array.length_toList]; exact Nat.le_refl _)
theorem ext_take (s : ByteArray) (n : Nat) : s.extract 0 n = bs (s.data.toList.take n) := by
 apply ByteArray.ext
 rw [ByteArray.data_extract]
 unfold bs
 apply Array.ext'
 simp
theorem below_predrew {B : Nat} {w w1 : World} (h : Below B w.drew w1) : Below B w w1 := (Below.refl B w).drew.trans h
theorem toVar_yes {s : ByteArray} {v : Nat} {r : List UInt8} (w : World) (hs : s.size <= maxLen) (h : rdV s.data.toList = some (v, r)) :
  Calls Try.prog 46 #[.string s] w fun e w' => e = .returned (.tuple #[.int .u64 (v : Int), .string (bs r), .bool true]) /\ Below w.heap.size w w' := by
 obtain ⟨_, _, h3, _, _, h6, h7⟩ := rdV_some h
 refine (toVar_some s _ w hs rfl h3).mono fun e w' ⟨he, hb⟩ => ⟨?_, hb⟩
 rw [he, ext_drop, <- h6, <- h7]
theorem toVar_no {s : ByteArray} (w : World) (hs : s.size <= maxLen) (h : rdV s.data.toList = none) :
  Calls Try.prog 46 #[.string s] w fun e w' => e = .returned (.tuple #[.int .u64 0, .string ⟨#[]⟩, .bool false]) /\ Below w.heap.size w w' :=
 toVar_none s w hs (rdV_none h)
theorem rdT_of {l : List UInt8} {n : Nat} {q : List UInt8} (h : rdV l = some (n, q)) : rdT l = if n <= q.length then some (q.take n, q.drop n) else none := by
 unfold rdT; rw [h]
theorem rest_le {l : List UInt8} {n : Nat} {q : List UInt8} (h : rdV l = some (n, q)) : q.length <= l.length := by
 obtain ⟨_, _, _, _, _, _, h7⟩ := rdV_some h
 rw [h7, List.length_drop]; omega
set_option maxHeartbeats 1000000 in
theorem toText_no {s : ByteArray} (w : World) (hs : s.size <= maxLen) (h : rdT s.data.toList = none) :
  Calls Try.prog 49 #[.string s] w fun e w' => e = .returned (.tuple #[.string ⟨#[]⟩, .string ⟨#[]⟩, .bool false]) /\ Below w.heap.size w w' := by
 cases hv : rdV s.data.toList with
 | none =>
  have C := Lib.hid (toVar_no w hs hv)
  clear hv h
  go_enter Try.func49, Try.ntmps49
  go_wp2_with fail
  refine C.out.mono ?_
  rintro e w1 ⟨rfl, hb1⟩
  have HB := Lib.hid hb1; clear hb1 C
  go_wp2
  go_ret3
  exact ⟨rfl, HB.out⟩
 | some p =>
  obtain ⟨n, q⟩ := p
  have C := Lib.hid (toVar_yes w hs hv)
  have hn : q.length < n := by
   rw [rdT_of hv] at h
   apply Decidable.byContradiction
   intro hh
   rw [if_pos (by omega)] at h
   cases h
  have hq := rest_le hv
  rw [str_len] at hq
  have hn2 := (rdV_some hv).2.1
  have hQ := bs_size q
  unfold maxLen at hs
  obtain ⟨Q, hQQ⟩ : ∃ Q, bs q = Q := ⟨_, rfl⟩
  rw [hQQ] at C hQ
  have hQn : Q.size < n := by omega
  have hQs : Q.size <= s.size := by omega
  clear hv h hQQ hn hq hQ
  go_enter Try.func49, Try.ntmps49
  go_wp2_with fail
  refine C.out.mono ?_
  rintro e w1 ⟨rfl, hb1⟩
  have HB := Lib.hid hb1; clear hb1 C
  go_wp2
  go_ret3
  exact ⟨rfl, HB.out⟩
set_option maxHeartbeats 1000000 in
theorem toText_yes {s : ByteArray} {t r : List UInt8} (w : World) (hs : s.size <= maxLen) (h : rdT s.data.toList = some (t, r)) :
  Calls Try.prog 49 #[.string s] w fun e w' => e = .returned (.tuple #[.string (bs t), .string (bs r), .bool true]) /\ Below w.heap.size w w' := by
 cases hv : rdV s.data.toList with
 | none => unfold rdT at h; rw [hv] at h; cases h
 | some p =>
  obtain ⟨n, q⟩ := p
  have C := Lib.hid (toVar_yes w hs hv)
  rw [rdT_of hv] at h
  have hn : n <= q.length := by
   apply Decidable.byContradiction
   intro hh
   rw [if_neg hh] at h
   cases h
  rw [if_pos hn] at h
  have hq := rest_le hv
  rw [str_len] at hq
  have hn2 := (rdV_some hv).2.1
  have hQ := bs_size q
  unfold maxLen at hs
  obtain ⟨Q, hQQ⟩ : ∃ Q, bs q = Q := ⟨_, rfl⟩
  have HT : Hid (Q.extract 0 n = bs t) := by show _ = _; cases h; rw [<- hQQ, ext_take]; rfl
  have HR : Hid (Q.extract n Q.size = bs r) := by show _ = _; cases h; rw [<- hQQ, ext_drop]; rfl
  rw [hQQ] at C hQ
  have hQn : n <= Q.size := by omega
  have hQs : Q.size <= s.size := by omega
  have hQi : (n : Int) <= (Q.size : Int) := by omega
  have hn0 : (0 : Int) <= (n : Int) := by omega
  clear hv h hQQ hn hq hQ
  go_enter Try.func49, Try.ntmps49
  go_wp2_with fail
  refine C.out.mono ?_
  rintro e w1 ⟨rfl, hb1⟩
  have HB := Lib.hid hb1; clear hb1 C
  go_wp2
  go_quiet (fail)
  go_wp2
  go_ret3
  exact ⟨by rw [<- HT.out, <- HR.out]; rfl, below_drewN HB.out _⟩
end Go.Proofs.Ytjfclpicoamfaaa.Fr
/- Chapter 2's examples: the statements' own helper 'shown' answers true, and changes nothing that was there. -/
namespace Go.Proofs.Ytjfclpicoamfaaa.Fr
open Go.RowKit
section
variable (W : World)
end
end Go.Proofs.Ytjfclpicoamfaaa.Fr
/- WireNumbers answers true for every three numbers and every text, and changes nothing that was there: the walk. -/
namespace Go.Proofs.Ytjfclpicoamfaaa.Fr
open Go.RowKit
theorem bs_cat (l m : List UInt8) : bs l ++ bs m = bs (l ++ m) := by
 apply ByteArray.ext
 rw [ByteArray.data_append]
 unfold bs
 simp
end Go.Proofs.Ytjfclpicoamfaaa.Fr

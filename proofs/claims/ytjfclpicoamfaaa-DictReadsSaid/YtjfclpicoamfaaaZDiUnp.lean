/- What the document's Pack and Unpack of entries answer. -/
import Derived.Test.YtjfclpicoamfaaaZDiBase
import Derived.Deep.DeepCutAuto
import Derived.Deep.CutBlock

set_option maxRecDepth 100000
namespace Go.Proofs.Ytjfclpicoamfaaa.Di
open Go.RowKit
open Fr (varL textL rdV rdT rdV_some rdT_some bs)
theorem infoXE : (Try.prog.info? 52).map (fun i => (i.zero, i.size, i.bytes)) = some (some (.agg #[.string ⟨#[]⟩, .string ⟨#[]⟩]), 2, 32) := by kernel_rfl
set_option maxHeartbeats 2000000 in
theorem xdpack_any (L : List En) (v : Value) (w : World) (h : SlD w v L) (hn : L.length <= 100000) (hz : ∀ x ∈ L, x.t.size <= 9223372036854775807 /\ x.v.size <= 1000000) :
  Calls Try.prog 12 #[v] w fun e w' => e = .returned (if RightD L then .tuple #[.string (bs (bytesD L)), .int .i64 0] else .tuple #[.string ⟨#[]⟩, .int .i64 1]) /\ Below w.heap.size w w' := by
 have CR := Lib.hid (xdright_any L v w h (by omega) (fun x hx => ⟨(hz x hx).1, by have := (hz x hx).2; omega⟩))
 by_cases hR : RightD L
 ·have CB := Lib.hid (fun W (hW : Below w.heap.size w W) => xdbytes_any L v W (h.below hW) (by omega) (fun x hx => ⟨hR.2.1 x hx, (hz x hx).2⟩))
  rw [if_pos hR]
  rw [decide_eq_true hR] at CR
  clear hR h hz
  generalize bs (bytesD L) = t at *
  go_enter Try.func12, Try.ntmps12
  go_wp2_with fail
  refine CR.out.mono ?_
  rintro e w1 ⟨rfl, hb1⟩
  have HB1 := Lib.hid hb1
  clear hb1
  go_wp2_with fail
  refine (CB.out _ HB1.out).mono ?_
  rintro e w2 ⟨rfl, hb2⟩
  have HB2 := Lib.hid (HB1.out.trans (hb2.mono HB1.out.size))
  clear hb2
  go_wp2_with fail
  go_ret2
  exact ⟨rfl, HB2.out⟩
 ·rw [if_neg hR]
  rw [decide_eq_false hR] at CR
  clear hR h hz
  go_enter Try.func12, Try.ntmps12
  go_wp2_with fail
  refine CR.out.mono ?_
  rintro e w1 ⟨rfl, hb1⟩
  go_wp2_with fail
  go_ret2
  exact ⟨rfl, hb1⟩
theorem unp_no1 {l : List UInt8} (h : rdV l = none) : unpD l = none := by unfold unpD listD; rw [h]; rfl
theorem unp_no2 {l r : List UInt8} {n : Nat} (h : rdV l = some (n, r)) (hn : ¬ n <= 1048576) : unpD l = none := by
 unfold unpD listD; rw [h, Option.bind_some]; dsimp only; rw [if_neg hn]
theorem unp_no3 {l r : List UInt8} {n : Nat} (h : rdV l = some (n, r)) (hs : (dSkip ((n + 15) / 16) r).bind (fun q => dEnts n [] q) = none) : unpD l = none := by
 unfold unpD listD; rw [h, Option.bind_some]; dsimp only
 split
 ·rename_i h2
  split at h2
  ·rw [hs] at h2; cases h2
  ·cases h2
 ·rfl
theorem unp_is {l r q : List UInt8} {n : Nat} {M : List En} (h : rdV l = some (n, r)) (hn : n <= 1048576) (hs : (dSkip ((n + 15) / 16) r).bind (fun q => dEnts n [] q) = some (M, q)) : unpD l = if RightD M /\ bytesD M = l then some M else none := by
 unfold unpD listD; rw [h, Option.bind_some]; dsimp only; rw [if_pos hn, hs]
theorem rdV_len {l r : List UInt8} {n : Nat} (h : rdV l = some (n, r)) : r.length <= l.length := Fr.rest_le h
theorem rdT_len {l t r : List UInt8} (h : rdT l = some (t, r)) : t.length + r.length <= l.length := by
 have := rdT_some h
 rw [<- this, List.length_append]
 unfold textL
 rw [List.length_append]; omega
structure S1 (r0 : List UInt8) (G j : Nat) (r : ByteArray) (b : Bool) : Prop where
 yes : b = true -> dSkip G r0 = dSkip (G - j) r.data.toList
 no : b = false -> dSkip G r0 = none
structure S2 (r1 : Option (List UInt8)) (n i : Nat) (M : List En) (last r : ByteArray) (b : Bool) : Prop where
 yes : b = true -> r1.bind (fun q => dEnts n [] q) = (dEnts (n - i) last.data.toList r.data.toList).bind fun y => some (M ++ y.1, y.2)
 no : b = false -> r1.bind (fun q => dEnts n [] q) = none
theorem S1.step {r0 : List UInt8} {G j : Nat} {r : ByteArray} (h : S1 r0 G j r true) (hj : j < G) {t q q2 : List UInt8} {v : Nat} (h1 : rdT r.data.toList = some (t, q)) (h2 : rdV q = some (v, q2)) : S1 r0 G (j + 1) (bs q2) true :=
 ⟨fun _ => by
  rw [h.yes rfl, show G - j = (G - (j + 1)) + 1 by omega, dSkip, h1, Option.bind_some]
  dsimp only
  rw [h2, Option.bind_some, bs_list], fun h => by cases h⟩
theorem S1.bad1 {r0 : List UInt8} {G j : Nat} {r : ByteArray} (h : S1 r0 G j r true) (hj : j < G) (h1 : rdT r.data.toList = none) (k : Nat) (r' : ByteArray) : S1 r0 G k r' false :=
 ⟨(fun h => by cases h), fun _ => by rw [h.yes rfl, show G - j = (G - (j + 1)) + 1 by omega, dSkip, h1]; rfl⟩
theorem S1.bad2 {r0 : List UInt8} {G j : Nat} {r : ByteArray} (h : S1 r0 G j r true) (hj : j < G) {t q : List UInt8} (h1 : rdT r.data.toList = some (t, q)) (h2 : rdV q = none) (k : Nat) (r' : ByteArray) : S1 r0 G k r' false :=
 ⟨(fun h => by cases h), fun _ => by
  rw [h.yes rfl, show G - j = (G - (j + 1)) + 1 by omega, dSkip, h1, Option.bind_some]
  dsimp only
  rw [h2]; rfl⟩
theorem S2.ent {r1 : Option (List UInt8)} {n i : Nat} {M : List En} {last r : ByteArray} (h : S2 r1 n i M last r true) (hi : i < n) : r1.bind (fun q => dEnts n [] q) = ((dEnt last.data.toList r.data.toList).bind fun x => (dEnts (n - (i + 1)) x.1.t.data.toList x.2).bind fun y => some (x.1 :: y.1, y.2)).bind fun y => some (M ++ y.1, y.2) := by
 rw [h.yes rfl, show n - i = (n - (i + 1)) + 1 by omega, dEnts]
theorem S2.step {r1 : Option (List UInt8)} {n i : Nat} {M : List En} {last r : ByteArray} (h : S2 r1 n i M last r true) (hi : i < n) {x : En} {q : List UInt8} (h1 : dEnt last.data.toList r.data.toList = some (x, q)) : S2 r1 n (i + 1) (M ++ [x]) x.t (bs q) true :=
 ⟨fun _ => by
  rw [h.ent hi, h1, Option.bind_some]
  dsimp only
  rw [bs_list]
  cases dEnts (n - (i + 1)) x.t.data.toList q with
  | none => rfl
  | some y => simp, fun h => by cases h⟩
theorem S2.bad {r1 : Option (List UInt8)} {n i : Nat} {M : List En} {last r : ByteArray} (h : S2 r1 n i M last r true) (hi : i < n) (h1 : dEnt last.data.toList r.data.toList = none) : r1.bind (fun q => dEnts n [] q) = none := by
 rw [h.ent hi, h1]; rfl
theorem dEnt_no1 {p l : List UInt8} (h : rdV l = none) : dEnt p l = none := by unfold dEnt; rw [h]; rfl
theorem dEnt_no2 {p l q : List UInt8} {k : Nat} (h : rdV l = some (k, q)) (hk : ¬ k <= p.length) : dEnt p l = none := by unfold dEnt; rw [h, Option.bind_some]; dsimp only; rw [if_neg hk]
theorem dEnt_no3 {p l q : List UInt8} {k : Nat} (h : rdV l = some (k, q)) (h1 : rdT q = none) : dEnt p l = none := by
 unfold dEnt; rw [h, Option.bind_some]; dsimp only; rw [h1]; split <;> rfl
theorem dEnt_no4 {p l q t q2 : List UInt8} {k : Nat} (h : rdV l = some (k, q)) (h1 : rdT q = some (t, q2)) (h2 : rdT q2 = none) : dEnt p l = none := by
 unfold dEnt; rw [h, Option.bind_some]; dsimp only; rw [h1, Option.bind_some]; dsimp only; rw [h2]; split <;> rfl
theorem dEnt_yes {p l q t q2 v q3 : List UInt8} {k : Nat} (h : rdV l = some (k, q)) (hk : k <= p.length) (h1 : rdT q = some (t, q2)) (h2 : rdT q2 = some (v, q3)) : dEnt p l = some (⟨bs (p.take k ++ t), bs v⟩, q3) := by
 unfold dEnt; rw [h, Option.bind_some]; dsimp only; rw [if_pos hk, h1, Option.bind_some]; dsimp only; rw [h2]; rfl
theorem ext_take (s : ByteArray) (k : Nat) : s.extract 0 k = bs (s.data.toList.take k) := by
 apply ByteArray.ext
 rw [ByteArray.data_extract]
 unfold bs
 apply Array.ext'
 simp
set_option maxHeartbeats 16000000 in
theorem xdunpack_any (s : ByteArray) (w : World) (hs : s.size <= 1000000) :
  Calls Try.prog 16 #[.string s] w fun e w' => (match unpD s.data.toList with
   | some L => ∃ v, e = .returned (.tuple #[v, .int .i64 0]) /\ SlD w' v L
   | none => e = .returned (.tuple #[.slice none 0 0, .int .i64 7])) /\ Below w.heap.size w w' := by
 obtain ⟨i1, hj, hy0, hy1, hy2⟩ := info_parts infoXE
 have HY2 := Lib.hid hy2; clear hy2
 obtain ⟨P, hP⟩ : ∃ P : Ending -> World -> Prop, (fun e w' => (match unpD s.data.toList with
   | some L => ∃ v, e = .returned (.tuple #[v, .int .i64 0]) /\ SlD w' v L
   | none => e = .returned (.tuple #[.slice none 0 0, .int .i64 7])) /\ Below w.heap.size w w') = P := ⟨_, rfl⟩
 have HPy : Hid (∀ (M : List En) v w', unpD s.data.toList = some M -> SlD w' v M -> Below w.heap.size w w' -> P (.returned (.tuple #[v, .int .i64 0])) w') := fun M v w' h1 h2 h3 => by
  rw [<- hP]
  show (match unpD s.data.toList with | some L => _ | none => _) /\ _
  rw [h1]
  exact ⟨⟨v, rfl, h2⟩, h3⟩
 have HPn : Hid (∀ w', unpD s.data.toList = none -> Below w.heap.size w w' -> P (.returned (.tuple #[.slice none 0 0, .int .i64 7])) w') := fun w' h1 h3 => by
  rw [<- hP]
  show (match unpD s.data.toList with | some L => _ | none => _) /\ _
  rw [h1]
  exact ⟨rfl, h3⟩
 rw [hP]
 clear hP
 cases hv : rdV s.data.toList with
 | none =>
  have C := Lib.hid (Fr.rtoVar_no w (by unfold maxLen; omega) hv)
  have HN := Lib.hid (unp_no1 hv)
  clear hv
  go_enter Try.func16, Try.ntmps16
  go_wp2_with fail
  refine C.out.mono ?_
  rintro e w1 ⟨rfl, hb1⟩
  have HB := Lib.hid hb1; clear hb1
  go_wp2_with fail
  exact HPn.out _ HN.out HB.out
 | some p =>
  obtain ⟨n, r0⟩ := p
  have C := Lib.hid (Fr.rtoVar_yes w (by unfold maxLen; omega) hv)
  have hr0 := rdV_len hv
  rw [str_len] at hr0
  by_cases hn : n <= 1048576
  ·have HSk : Hid ((dSkip ((n + 15) / 16) r0).bind (fun q => dEnts n [] q) = none -> unpD s.data.toList = none) := fun h => unp_no3 hv h
   have HIs : Hid (∀ M q, (dSkip ((n + 15) / 16) r0).bind (fun q => dEnts n [] q) = some (M, q) -> unpD s.data.toList = if RightD M /\ bytesD M = s.data.toList then some M else none) := fun M q h => unp_is hv hn h
   obtain ⟨G, hG⟩ : ∃ G, (n + 15) / 16 = G := ⟨_, rfl⟩
   rw [hG] at HSk HIs
   have z1 : ¬ (1048576 : Int) < (n : Int) := by omega
   have hwn : IntKind.i64.wrap (n : Int) = (n : Int) := IntWalk.i64_in _ (by omega)
   have hG2 : 16 * G < n + 16 /\ n <= 16 * G := by omega
   have hq0 : (bs r0).size <= 1000000 := by rw [Fr.bs_size]; omega
   have HS0 : Hid (S1 r0 G 0 (bs r0) true) := ⟨fun _ => by rw [bs_list]; rfl, fun h => by cases h⟩
   obtain ⟨R0, hR0⟩ : ∃ R0, bs r0 = R0 := ⟨_, rfl⟩
   rw [hR0] at C hq0 HS0
   clear hv hG hR0 hr0
   go_enter Try.func16, Try.ntmps16
   go_wp2_with fail
   refine C.out.mono ?_
   rintro e w1 ⟨rfl, hb1⟩
   have HB1 := Lib.hid hb1; clear hb1
   go_upto_block 0 with fail
   go_cut [5, 6] (fun rv bv wx => ∃ (r : ByteArray) (b : Bool), rv = .string r /\ bv = .bool b /\ r.size <= 1000000 /\ Hid (S2 (dSkip G r0) n 0 [] ⟨#[]⟩ r b) /\ Hid (Below w.heap.size w wx))
   case first =>
    go_wp2_with fail
    go_loopw [5, 6, 8] (fun rv bv iv wr => ∃ (j : Nat) (r : ByteArray) (b : Bool), rv = .string r /\ bv = .bool b /\ iv = .int .i64 ((16 * j : Nat) : Int) /\ j <= G /\ r.size <= 1000000 /\ Hid (S1 r0 G j r b) /\ Hid (Below w.heap.size w wr)) (fun _ _ iv _ => n + 16 - (intOf iv).toNat)
    case atStart => exact ⟨0, R0, true, rfl, rfl, rfl, Nat.zero_le _, hq0, HS0.out, HB1.out⟩
    case round =>
     clear HB1
     obtain ⟨j, r, b, rfl, rfl, rfl, hjG, hrs, HS, HB⟩ := hrel
     obtain ⟨i, hi⟩ : ∃ i, 16 * j = i := ⟨_, rfl⟩
     rw [hi]
     cases b with
     | false =>
      by_cases hlt : i < n
      ·have hiz : (i : Int) < (n : Int) := by omega
       go_wp2_with fail
       go_meet
       exact ⟨r, false, rfl, rfl, hrs, ⟨(fun h => by cases h), fun _ => by rw [HS.out.no rfl]; rfl⟩, HB.out⟩
      ·have hiz : ¬ (i : Int) < (n : Int) := by omega
       go_wp2_with fail
       go_meet
       exact ⟨r, false, rfl, rfl, hrs, ⟨(fun h => by cases h), fun _ => by rw [HS.out.no rfl]; rfl⟩, HB.out⟩
     | true =>
      by_cases hlt : i < n
      ·have hiz : (i : Int) < (n : Int) := by omega
       have hjl : j < G := by omega
       have hw16 : IntKind.i64.wrap ((i : Int) + 16) = ((16 * (j + 1) : Nat) : Int) := by rw [show (i : Int) + 16 = ((16 * (j + 1) : Nat) : Int) by omega]; exact IntWalk.i64_in _ (by omega)
       cases ht : rdT r.data.toList with
       | none =>
        have CT := Lib.hid (fun W => Fr.rtoText_no (s := r) W (by unfold maxLen; omega) ht)
        have HS2 := Lib.hid (HS.out.bad1 hjl ht (j + 1) ⟨#[]⟩)
        clear ht
        go_wp2_with fail
        refine (CT.out _).mono ?_
        rintro e w2 ⟨rfl, hb2⟩
        have HB2 := Lib.hid (HB.out.trans (hb2.mono HB.out.size))
        clear hb2
        go_wp2_with fail
        go_roundw
        case rel => exact ⟨j + 1, _, false, rfl, rfl, rfl, by omega, Nat.zero_le _, HS2.out, HB2.out⟩
        case measure => simp [intOf]; omega
       | some tq =>
        obtain ⟨t, q⟩ := tq
        have CT := Lib.hid (fun W => Fr.rtoText_yes (s := r) W (by unfold maxLen; omega) ht)
        have hql := rdT_len ht
        rw [str_len] at hql
        have hqs : (bs q).size <= 1000000 := by rw [Fr.bs_size]; omega
        cases hv2 : rdV q with
        | none =>
         have CV := Lib.hid (fun W => Fr.rtoVar_no (s := bs q) W (by unfold maxLen; omega) (by rw [bs_list]; exact hv2))
         have HS2 := Lib.hid (HS.out.bad2 hjl ht hv2 (j + 1) ⟨#[]⟩)
         clear ht hv2
         generalize bs t = T at *
         generalize bs q = Q at *
         go_wp2_with fail
         refine (CT.out _).mono ?_
         rintro e w2 ⟨rfl, hb2⟩
         have HB2 := Lib.hid (HB.out.trans (hb2.mono HB.out.size))
         clear hb2
         go_wp2_with fail
         refine (CV.out _).mono ?_
         rintro e w3 ⟨rfl, hb3⟩
         have HB3 := Lib.hid (HB2.out.trans (hb3.mono HB2.out.size))
         clear hb3
         go_wp2_with fail
         go_roundw
         case rel => exact ⟨j + 1, _, false, rfl, rfl, rfl, by omega, Nat.zero_le _, HS2.out, HB3.out⟩
         case measure => simp [intOf]; omega
        | some vq =>
         obtain ⟨v2, q2⟩ := vq
         have CV := Lib.hid (fun W => Fr.rtoVar_yes (s := bs q) W (by unfold maxLen; omega) (by rw [bs_list]; exact hv2))
         have HS2 := Lib.hid (HS.out.step hjl ht hv2)
         have hq2 := rdV_len hv2
         have hq2s : (bs q2).size <= 1000000 := by rw [Fr.bs_size]; omega
         clear ht hv2
         generalize bs t = T at *
         generalize bs q = Q at *
         generalize bs q2 = Q2 at *
         go_wp2_with fail
         refine (CT.out _).mono ?_
         rintro e w2 ⟨rfl, hb2⟩
         have HB2 := Lib.hid (HB.out.trans (hb2.mono HB.out.size))
         clear hb2
         go_wp2_with fail
         refine (CV.out _).mono ?_
         rintro e w3 ⟨rfl, hb3⟩
         have HB3 := Lib.hid (HB2.out.trans (hb3.mono HB2.out.size))
         clear hb3
         go_wp2_with fail
         go_roundw
         case rel => exact ⟨j + 1, _, true, rfl, rfl, rfl, by omega, hq2s, HS2.out, HB3.out⟩
         case measure => simp [intOf]; omega
      ·have hiz : ¬ (i : Int) < (n : Int) := by omega
       have hjG2 : G - j = 0 := by omega
       go_wp2_with fail
       go_meet
       exact ⟨r, true, rfl, rfl, hrs, ⟨fun _ => by
        rw [HS.out.yes rfl, hjG2]
        show dEnts n [] r.data.toList = (dEnts (n - 0) _ _).bind _
        rw [Nat.sub_zero]
        show dEnts n [] r.data.toList = (dEnts n [] r.data.toList).bind _
        cases dEnts n [] r.data.toList with
        | none => rfl
        | some y => rfl, fun h => by cases h⟩, HB.out⟩
   case rest =>
    obtain ⟨r1, b1, hr1, hb1', hr1s, HS2, HB2⟩ := hcut
    subst hr1 hb1'
    go_upto_block 2 with fail
    go_cut [6, 9] (fun bv lv wx => ∃ (b : Bool) (M : List En), bv = .bool b /\ Hid (b = true -> unpD s.data.toList = if RightD M /\ bytesD M = s.data.toList then some M else none) /\ Hid (b = false -> unpD s.data.toList = none) /\ Hid (OwnD w.heap.size wx 52 lv M) /\ Hid (∀ x ∈ M, x.t.size <= 1000000 /\ x.v.size <= 1000000) /\ Hid (M.length <= 1048576) /\ Hid (Below w.heap.size w wx))
    case first =>
     go_wp2_with fail
     go_loopw [5, 6, 9, 10, 11] (fun rv bv lv tv iv wr => ∃ (i : Nat) (r : ByteArray) (b : Bool) (last : ByteArray) (M : List En), rv = .string r /\ bv = .bool b /\ tv = .string last /\ iv = .int .i64 (i : Int) /\ i <= n /\ r.size + last.size <= 1000000 /\ Hid (S2 (dSkip G r0) n i M last r b) /\ Hid (OwnD w.heap.size wr 52 lv M) /\ Hid (∀ x ∈ M, x.t.size <= 1000000 /\ x.v.size <= 1000000) /\ Hid (M.length = i) /\ Hid (Below w.heap.size w wr)) (fun _ _ _ _ iv _ => n - (intOf iv).toNat)
     case atStart => exact ⟨0, r1, b1, ⟨#[]⟩, [], rfl, rfl, rfl, rfl, Nat.zero_le _, hr1s, HS2.out, OwnD.nil _ _ _, (fun x hx => by cases hx), rfl, HB2.out⟩
     case round =>
      clear HB2 HS2
      obtain ⟨i, r, b, last, M, rfl, rfl, rfl, rfl, hin, hrl, HS, HO, HMz0, HMl, HB⟩ := hrel
      cases b with
      | false =>
       by_cases hlt : i < n
       ·have hiz : (i : Int) < (n : Int) := by omega
        go_wp2_with fail
        go_meet
        exact ⟨false, M, rfl, (fun h => by cases h), fun _ => HSk.out (HS.out.no rfl), HO.out, HMz0.out, by show _ <= _; rw [HMl.out]; omega, HB.out⟩
       ·have hiz : ¬ (i : Int) < (n : Int) := by omega
        go_wp2_with fail
        go_meet
        exact ⟨false, M, rfl, (fun h => by cases h), fun _ => HSk.out (HS.out.no rfl), HO.out, HMz0.out, by show _ <= _; rw [HMl.out]; omega, HB.out⟩
      | true =>
       by_cases hlt : i < n
       ·have hiz : (i : Int) < (n : Int) := by omega
        cases hk : rdV r.data.toList with
        | none =>
         have CK := Lib.hid (fun W => Fr.rtoVar_no (s := r) W (by unfold maxLen; omega) hk)
         have HNo := Lib.hid (HSk.out (HS.out.bad hlt (dEnt_no1 hk)))
         clear hk
         go_wp2_with fail
         refine (CK.out _).mono ?_
         rintro e w4 ⟨rfl, hw4⟩
         have HB4 := Lib.hid (HB.out.trans (hw4.mono HB.out.size))
         have HO4 := Lib.hid (HO.out.below hw4)
         clear hw4
         go_wp2_with fail
         exact HPn.out _ HNo.out HB4.out
        | some kq =>
         obtain ⟨k, q⟩ := kq
         have CK := Lib.hid (fun W => Fr.rtoVar_yes (s := r) W (by unfold maxLen; omega) hk)
         have hql := rdV_len hk
         have hk64 := (rdV_some hk).2.1
         rw [str_len] at hql
         have hqs : (bs q).size <= 1000000 := by rw [Fr.bs_size]; omega
         have hwl : IntKind.u64.wrap (last.size : Int) = (last.size : Int) := by rw [IntKind.wrap_u64]; omega
         by_cases hkl : k <= last.size
         ·have hkz : decide ((last.size : Int) < (k : Int)) = false := decide_eq_false (by omega)
          cases ht : rdT q with
          | none =>
           have CT := Lib.hid (fun W => Fr.rtoText_no (s := bs q) W (by unfold maxLen; omega) (by rw [bs_list]; exact ht))
           have HNo := Lib.hid (HSk.out (HS.out.bad hlt (dEnt_no3 hk ht)))
           clear hk ht
           generalize bs q = Q at *
           go_wp2_with fail
           refine (CK.out _).mono ?_
           rintro e w4 ⟨rfl, hw4⟩
           have HB4 := Lib.hid (HB.out.trans (hw4.mono HB.out.size))
           have HO4 := Lib.hid (HO.out.below hw4)
           clear hw4
           go_wp2_with fail
           refine (CT.out _).mono ?_
           rintro e w5 ⟨rfl, hw5⟩
           have HB5 := Lib.hid (HB4.out.trans (hw5.mono HB4.out.size))
           have HO5 := Lib.hid (HO4.out.below hw5)
           clear hw5
           go_wp2_with fail
           exact HPn.out _ HNo.out HB5.out
          | some tq =>
           obtain ⟨t, q2⟩ := tq
           have CT := Lib.hid (fun W => Fr.rtoText_yes (s := bs q) W (by unfold maxLen; omega) (by rw [bs_list]; exact ht))
           have hq2l := rdT_len ht
           have hq2s : (bs q2).size <= 1000000 := by rw [Fr.bs_size]; omega
           have hTs : (bs t).size = t.length := Fr.bs_size t
           have hLk : last.extract 0 k = bs (last.data.toList.take k) := ext_take last k
           have hLz : (last.extract 0 k).size = k := by rw [hLk, Fr.bs_size, List.length_take, str_len]; omega
           have hN : last.extract 0 k ++ bs t = bs (last.data.toList.take k ++ t) := by rw [hLk, bs_app]
           have hrun := fun (W : World) => run_string_add_sum (P := Try.prog) W (last.extract 0 k) (bs t) (by omega)
           obtain ⟨N, hNe⟩ : ∃ N, bs (last.data.toList.take k ++ t) = N := ⟨_, rfl⟩
           have hNs : N.size <= last.size + t.length := by rw [<- hNe, Fr.bs_size, List.length_append, List.length_take, str_len]; omega
           rw [hN, hNe] at hrun
           have hk0 : 0 <= (k : Int) := by omega
           have hk1 : (k : Int).toNat = k := rfl
           have hk2 : (k : Int) <= (last.size : Int) := by omega
           cases hv2 : rdT q2 with
           | none =>
            have CV := Lib.hid (fun W => Fr.rtoText_no (s := bs q2) W (by unfold maxLen; omega) (by rw [bs_list]; exact hv2))
            have HNo := Lib.hid (HS.out.bad hlt (dEnt_no4 hk ht hv2))
            obtain ⟨V, hV⟩ : ∃ V : ByteArray, (⟨#[]⟩ : ByteArray) = V := ⟨_, rfl⟩
            have hNz : V.size + N.size <= 1000000 := by rw [<- hV]; show 0 + _ <= _; omega
            have hVz : V.size <= 1000000 := by rw [<- hV]; exact Nat.zero_le _
            have HMz : Hid (∀ x ∈ M ++ [⟨N, V⟩], x.t.size <= 1000000 /\ x.v.size <= 1000000) := fun x hx => by
             rcases List.mem_append.1 hx with hx | hx
             ·exact HMz0.out x hx
             ·rw [List.mem_singleton.1 hx]; exact ⟨by show N.size <= _; omega, hVz⟩
            have HMl2 : Hid ((M ++ [(⟨N, V⟩ : En)]).length = i + 1) := by show _ = _; rw [List.length_append, HMl.out]; rfl
            clear hk ht hv2 hLk hLz hN hNe
            generalize bs q = Q at *
            generalize bs q2 = Q2 at *
            generalize bs t = T at *
            rw [hV] at CV
            go_wp2_with fail
            refine (CK.out _).mono ?_
            rintro e w4 ⟨rfl, hw4⟩
            have HB4 := Lib.hid (HB.out.trans (hw4.mono HB.out.size))
            have HO4 := Lib.hid (HO.out.below hw4)
            clear hw4
            go_wp2_with fail
            refine (CT.out _).mono ?_
            rintro e w5 ⟨rfl, hw5⟩
            have HB5 := Lib.hid (HB4.out.trans (hw5.mono HB4.out.size))
            have HO5 := Lib.hid (HO4.out.below hw5)
            clear hw5
            go_wp2_with fail
            refine (CV.out _).mono ?_
            rintro e w6 ⟨rfl, hw6⟩
            have HB6 := Lib.hid (HB5.out.trans (hw6.mono HB5.out.size))
            have HO6 := Lib.hid (HO5.out.below hw6)
            clear hw6
            go_wp2_with (at_builtin; go_loud (refine wpList_append_own _ rfl _ _ 24 rfl w.heap.size 52 i1 _ 2 32 Try.underlying24 hj hy0 hy1 HY2.out rfl (by decide) _ _ _ rfl (HO6.out.alloc _) _ 1 1 [.string N, .string V] rfl rfl (two_cellD (by simp)) two_oneD ?c3 ?c4 ?c5 ?_))
            case c3 => have := HMl.out; unfold maxLen; omega
            case c4 => have := HMl.out; omega
            case c5 => have := HB6.out.size; simp; omega
            intro v1 w7 hown hgrow _
            have HO7 : Hid (OwnD w.heap.size w7 52 v1 (M ++ [⟨N, V⟩])) := by
             show OwnD _ _ _ _ _
             unfold OwnD
             rw [List.length_append, flatD_snoc]
             exact hown
            have HB7 : Hid (Below w.heap.size w w7) := (HB6.out.alloc HB6.out.size _).grown hgrow (by have := HB6.out.size; simp; omega) (fun q hq => own_lowD HO6.out hq)
            clear hown hgrow
            go_wp2_with fail
            go_roundw
            case rel => exact ⟨i + 1, V, false, N, M ++ [(⟨N, V⟩ : En)], rfl, rfl, rfl, by go_num, by omega, hNz, ⟨(fun h => by cases h), fun _ => HNo.out⟩, HO7.out, HMz.out, HMl2.out, HB7.out⟩
            case measure => simp [intOf]; omega
           | some vq =>
            obtain ⟨vl, q3⟩ := vq
            have CV := Lib.hid (fun W => Fr.rtoText_yes (s := bs q2) W (by unfold maxLen; omega) (by rw [bs_list]; exact hv2))
            have HS2 := Lib.hid (HS.out.step hlt (dEnt_yes hk (by rw [str_len]; exact hkl) ht hv2))
            rw [hNe] at HS2
            have hq3l := rdT_len hv2
            have hq3s : (bs q3).size = q3.length := Fr.bs_size q3
            have hVs : (bs vl).size = vl.length := Fr.bs_size vl
            obtain ⟨V, hV⟩ : ∃ V, bs vl = V := ⟨_, rfl⟩
            rw [hV] at CV HS2 hVs
            have HMz : Hid (∀ x ∈ M ++ [⟨N, V⟩], x.t.size <= 1000000 /\ x.v.size <= 1000000) := fun x hx => by
             rcases List.mem_append.1 hx with hx | hx
             ·exact HMz0.out x hx
             ·rw [List.mem_singleton.1 hx]; exact ⟨by show N.size <= _; omega, by show V.size <= _; omega⟩
            have HMl2 : Hid ((M ++ [(⟨N, V⟩ : En)]).length = i + 1) := by show _ = _; rw [List.length_append, HMl.out]; rfl
            clear hk ht hv2 hLk hLz hN hNe
            generalize bs q = Q at *
            generalize bs q2 = Q2 at *
            generalize bs q3 = Q3 at *
            generalize bs t = T at *
            go_wp2_with fail
            refine (CK.out _).mono ?_
            rintro e w4 ⟨rfl, hw4⟩
            have HB4 := Lib.hid (HB.out.trans (hw4.mono HB.out.size))
            have HO4 := Lib.hid (HO.out.below hw4)
            clear hw4
            go_wp2_with fail
            refine (CT.out _).mono ?_
            rintro e w5 ⟨rfl, hw5⟩
            have HB5 := Lib.hid (HB4.out.trans (hw5.mono HB4.out.size))
            have HO5 := Lib.hid (HO4.out.below hw5)
            clear hw5
            go_wp2_with fail
            refine (CV.out _).mono ?_
            rintro e w6 ⟨rfl, hw6⟩
            have HB6 := Lib.hid (HB5.out.trans (hw6.mono HB5.out.size))
            have HO6 := Lib.hid (HO5.out.below hw6)
            clear hw6
            go_wp2_with (at_builtin; go_loud (refine wpList_append_own _ rfl _ _ 24 rfl w.heap.size 52 i1 _ 2 32 Try.underlying24 hj hy0 hy1 HY2.out rfl (by decide) _ _ _ rfl (HO6.out.alloc _) _ 1 1 [.string N, .string V] rfl rfl (two_cellD (by simp)) two_oneD ?c3 ?c4 ?c5 ?_))
            case c3 => have := HMl.out; unfold maxLen; omega
            case c4 => have := HMl.out; omega
            case c5 => have := HB6.out.size; simp; omega
            intro v1 w7 hown hgrow _
            have HO7 : Hid (OwnD w.heap.size w7 52 v1 (M ++ [⟨N, V⟩])) := by
             show OwnD _ _ _ _ _
             unfold OwnD
             rw [List.length_append, flatD_snoc]
             exact hown
            have HB7 : Hid (Below w.heap.size w w7) := (HB6.out.alloc HB6.out.size _).grown hgrow (by have := HB6.out.size; simp; omega) (fun q hq => own_lowD HO6.out hq)
            clear hown hgrow
            go_wp2_with fail
            go_roundw
            case rel => exact ⟨i + 1, _, true, N, M ++ [(⟨N, V⟩ : En)], rfl, rfl, rfl, by go_num, by omega, by omega, HS2.out, HO7.out, HMz.out, HMl2.out, HB7.out⟩
            case measure => simp [intOf]; omega
         ·have hkz : decide ((last.size : Int) < (k : Int)) = true := decide_eq_true (by omega)
          have HNo := Lib.hid (HSk.out (HS.out.bad hlt (dEnt_no2 hk (by rw [str_len]; exact hkl))))
          clear hk
          generalize bs q = Q at *
          go_wp2_with fail
          refine (CK.out _).mono ?_
          rintro e w4 ⟨rfl, hw4⟩
          have HB4 := Lib.hid (HB.out.trans (hw4.mono HB.out.size))
          have HO4 := Lib.hid (HO.out.below hw4)
          clear hw4
          go_wp2_with fail
          exact HPn.out _ HNo.out HB4.out
       ·have hiz : ¬ (i : Int) < (n : Int) := by omega
        have hin2 : n - i = 0 := by omega
        go_wp2_with fail
        go_meet
        exact ⟨true, M, rfl, fun _ => HIs.out M r.data.toList (by rw [HS.out.yes rfl, hin2]; show some (M ++ [], _) = _; rw [List.append_nil]), (fun h => by cases h), HO.out, HMz0.out, by show _ <= _; rw [HMl.out]; omega, HB.out⟩
    case rest =>
     obtain ⟨b2, M, hb2, HYe, HNo, HO2, HMz, HMl, HB3⟩ := hcut
     subst hb2
     obtain ⟨lo, lc, rfl⟩ := HO2.out.slice
     have HSl := Lib.hid HO2.out.sl
     have CR := Lib.hid (xdright_any M _ wc HSl.out (by have : M.length <= 1048576 := HMl.out; omega) (fun x hx => by have := HMz.out x hx; omega))
     have CB := Lib.hid (fun W (hW : Below wc.heap.size wc W) (hR : RightD M) => xdbytes_any M _ W (HSl.out.below hW) (by have : M.length <= 1048576 := HMl.out; omega) (fun x hx => ⟨hR.2.1 x hx, (HMz.out x hx).2⟩))
     generalize M.length = m at *
     clear HO2
     cases b2 with
     | false =>
      generalize decide (RightD M) = rb at *
      go_wp2_with fail
      refine CR.out.mono ?_
      rintro e w4 ⟨rfl, hw4⟩
      have HB4 := Lib.hid (HB3.out.trans (hw4.mono HB3.out.size))
      clear hw4
      go_wp2_with fail
      exact HPn.out _ (HNo.out (by trivial)) HB4.out
     | true =>
      by_cases hR : RightD M
      ·rw [decide_eq_true hR] at CR
       have CB2 := Lib.hid (fun W hW => CB.out W hW hR)
       by_cases hE : bs (bytesD M) = s
       ·have HY := Lib.hid ((HYe.out rfl).trans (if_pos ⟨hR, by rw [<- hE, bs_list]⟩))
        rw [hE] at CB2
        clear hE hR CB
        go_wp2_with fail
        refine CR.out.mono ?_
        rintro e w4 ⟨rfl, hw4⟩
        have HB4 := Lib.hid (HB3.out.trans (hw4.mono HB3.out.size))
        have HW4 := Lib.hid hw4
        clear hw4
        go_wp2_with fail
        refine (CB2.out _ HW4.out).mono ?_
        rintro e w5 ⟨rfl, hw5⟩
        have HB5 := Lib.hid (HB4.out.trans (hw5.mono HB4.out.size))
        have HS5 := Lib.hid (HSl.out.below (HW4.out.trans (hw5.mono HW4.out.size)))
        clear hw5
        go_wp2_with fail
        exact HPy.out M _ _ HY.out HS5.out HB5.out
       ·have HY := Lib.hid ((HYe.out rfl).trans (if_neg fun h => hE (by rw [h.2, bs_back])))
        have hdf : ((bs (bytesD M)).toList == s.toList) = false := Fr.str_diff hE
        clear hE hR CB
        generalize bs (bytesD M) = T at *
        go_wp2_with fail
        refine CR.out.mono ?_
        rintro e w4 ⟨rfl, hw4⟩
        have HB4 := Lib.hid (HB3.out.trans (hw4.mono HB3.out.size))
        have HW4 := Lib.hid hw4
        clear hw4
        go_wp2_with fail
        refine (CB2.out _ HW4.out).mono ?_
        rintro e w5 ⟨rfl, hw5⟩
        have HB5 := Lib.hid (HB4.out.trans (hw5.mono HB4.out.size))
        clear hw5
        go_wp2_with fail
        exact HPn.out _ HY.out HB5.out
      ·rw [decide_eq_false hR] at CR
       have HY := Lib.hid ((HYe.out rfl).trans (if_neg fun h => hR h.1))
       clear hR CB
       go_wp2_with fail
       refine CR.out.mono ?_
       rintro e w4 ⟨rfl, hw4⟩
       have HB4 := Lib.hid (HB3.out.trans (hw4.mono HB3.out.size))
       clear hw4
       go_wp2_with fail
       exact HPn.out _ HY.out HB4.out
  ·have HN := Lib.hid (unp_no2 hv hn)
   have z1 : (1048576 : Int) < (n : Int) := by omega
   clear hv
   generalize bs r0 = R0 at *
   go_enter Try.func16, Try.ntmps16
   go_wp2_with fail
   refine C.out.mono ?_
   rintro e w1 ⟨rfl, hb1⟩
   have HB := Lib.hid hb1; clear hb1
   go_wp2_with fail
   exact HPn.out _ HN.out HB.out
end Go.Proofs.Ytjfclpicoamfaaa.Di

/- The program's slices.Chunk over entries: the contract of its iterator. -/
import Derived.Test.YtjfclpicoamfaaaZDgEnc
import Derived.RangeFuncWrites
import Derived.RangeFuncFrom
import Derived.RangeFuncNested
import Derived.RangeFuncBound
import Derived.RangeFuncCalls
import Derived.RangeFuncLeaves
import Derived.RangeFuncBox
import Derived.Shelf.Abstract
import Derived.Shelf.RegionOpen
import Derived.OwnWalkIn
import Derived.TacticsInMore
import Derived.LoopNIn
import Derived.LoopIn
import Derived.Sort.QuietIn
import Derived.Test.YtjfclpicoamfaaaZDgRead
import Derived.Test.YtjfclpicoamfaaaZBase

set_option maxRecDepth 100000
namespace Go.Proofs.Ytjfclpicoamfaaa.Di
open Go.RowKit Go.Shelf
open Fr (bs)
open Po (Later SeqUp KeptIn later_below kept_below)
attribute [local go_sem] Oper.semAt_some
def KpC (B : Nat) (X Y : World) : Prop := KpT [22, 3] X Y /\ ∀ q, q < B -> q < X.heap.size -> Y.heap[q]? = X.heap[q]?
theorem kpc_t {B : Nat} {X Y Z : World} (h : KpC B X Y) (k : KpC B Y Z) : KpC B X Z := ⟨kpt_t h.1 k.1, fun q h1 h2 => (k.2 q h1 (Nat.lt_of_lt_of_le h2 h.1.1)).trans (h.2 q h1 h2)⟩
theorem kpc_b {B : Nat} {w : World} (hw : B <= w.heap.size) (W : World) (l : Nat) (o o' : Obj) (hl : w.heap.size <= l) (h : W.heap[l]? = some o) (h1 : o.isCells = false) (h2 : o.isWalk = false) : KpC B W (W.putObj l o') :=
 ⟨kpt_b (w := w) W l o o' hl h h1 h2, fun q h1 h2 => (grownBy_putObj' W l o').block q h2 (fun e => by cases e; omega)⟩
theorem kpc_below {B : Nat} {X Y : World} (h : Below X.heap.size X Y) : KpC B X Y := ⟨kpt_below h, fun q _ h2 => h.block q h2⟩
def EncC (L : List En) (k : Nat) (u : Value) (W : World) : Prop := 16 * k < L.length /\ SlD W u (grp L k)
structure FC (J : List Value -> World -> Prop) (w0 : World) (v : Value) (Bs Bn : Nat) (V : World) (us : List Value) : Prop where
 bs : V.heap[Bs]? = some (.cells #[v] 22 (0, 0))
 bn : V.heap[Bn]? = some (.cells #[.int .i64 16] 3 (0, 0))
 j : J us V
 low : ∀ q, q < w0.heap.size -> V.heap[q]? = w0.heap[q]?
 sz : w0.heap.size <= V.heap.size
theorem SlD.low {w w' : World} {v : Value} {L : List En} (h : SlD w v L) (hl : ∀ q, q < w.heap.size -> w'.heap[q]? = w.heap[q]?) (hs : w.heap.size <= w'.heap.size) : SlD w' v L := by
 obtain ⟨ao, c, hv, hlc, hc⟩ := h
 have ce : ∀ (p : Addr), p.block < w.heap.size -> w'.cell? p = w.cell? p := fun p hp => World.cell?_of_block (hl p.block hp)
 refine ⟨ao, c, hv, hlc, fun j hj => ?_⟩
 obtain ⟨g, off, e, hg, h1, h2⟩ := hc j hj
 exact ⟨g, off, e, Nat.lt_of_lt_of_le hg hs, (ce ⟨g, _, none⟩ hg).trans h1, (ce ⟨g, _, none⟩ hg).trans h2⟩
theorem SlD.cut {w : World} {ao : Option Addr} {c n : Nat} {L : List En} (h : SlD w (.slice ao n c) L) (hn : L.length = n) (a m : Nat) (h0 : a < n) (hm : a + m <= n) :
  SlD w (.slice (ao.map fun x => x.add (a * 2)) m m) ((L.drop a).take m) := by
 subst hn
 obtain ⟨ao', c', e, hl, hc⟩ := h
 cases e
 obtain ⟨g, off, rfl, hg, -, -⟩ := hc a h0
 refine ⟨some ⟨g, off + a * 2, none⟩, m, by rw [Option.map_some, add_atD, List.length_take, List.length_drop, Nat.min_eq_left (by omega)], by rw [List.length_take, List.length_drop]; omega, fun j hj => ?_⟩
 rw [List.length_take, List.length_drop] at hj
 obtain ⟨g', off', e, hg', h1, h2⟩ := hc (a + j) (by omega)
 cases e
 refine ⟨g, off + a * 2, rfl, hg, ?_, ?_⟩
 ·rw [List.getElem_take, List.getElem_drop, <- h1]
  congr 2; omega
 ·rw [List.getElem_take, List.getElem_drop, <- h2]
  congr 2; omega
theorem grp_cut {L : List En} {k p n m : Nat} (hn : L.length = n) (hp : 16 * k = p) (hm : min 16 (n - p) = m) : (L.drop p).take m = grp L k := by
 unfold grp
 rw [hp, <- hm, List.take_eq_take_iff, List.length_drop, hn]
 omega
set_option maxHeartbeats 8000000 in
theorem pdchunk1_up (L : List En) (v : Value) (w0 : World) (hv : SlD w0 v L) (hn : L.length <= 100000000) (Bs Bn : Nat) (w : World) (hw : Below w0.heap.size w0 w)
  (hBs : w.heap[Bs]? = some (.cells #[v] 22 (0, 0))) (hBn : w.heap[Bn]? = some (.cells #[.int .i64 16] 3 (0, 0))) :
  SeqUp OkD PtsD Try.prog 33 #[.pointer (some ⟨Bs, 0, none⟩), .pointer (some ⟨Bn, 0, none⟩)] (EncC L) (KpC w0.heap.size) ((L.length + 15) / 16) w := by
 intro l' J Jx W hW hAb hAbx hY hj0
 have HFC : Hid (FC J w0 v Bs Bn W []) := ⟨keepD hBs hW, keepD hBn hW, hj0, fun q hq => (hW.block q (Nat.lt_of_lt_of_le hq hw.size)).trans (hw.block q hq), Nat.le_trans hw.size hW.size⟩
 have HV := Lib.hid hv
 obtain ⟨ao, c, rfl, hlc, -⟩ := hv
 obtain ⟨n, hl⟩ : ∃ n, L.length = n := ⟨_, rfl⟩
 have HN := Lib.hid hl
 rw [hl] at hlc hn hY ⊢
 rw [hl] at HFC hBs HV
 have HY := Lib.hid hY
 have HA := Lib.hid hAb
 clear hY hAb hAbx hBs hBn hj0 hl
 refine (callsIn_wide (n := 1)).1 ?_
 refine callsIn_of_wp Try.func33 rfl trivial ?_ rfl
 simp only [Try.ntmps33, List.size_toArray, List.length_cons, List.length_nil, Nat.reduceAdd, Nat.reduceSub, Array.replicate_succ, Array.replicate_zero, List.push_toArray, List.append_toArray, List.nil_append, List.cons_append]
 gi_wp2
 gi_loopw [4] (fun iv wr => ∃ (p k : Nat) (us : List Value), iv = .int .i64 (p : Int) /\ 16 * k = p /\ us.length = k /\ p < n + 16 /\ Hid (FC J w0 (.slice ao n c) Bs Bn wr us) /\ Hid (W.heap.size <= wr.heap.size)) (fun iv _ => n + 16 - (intOf iv).toNat)
 case atStart => exact ⟨0, 0, [], rfl, rfl, rfl, by omega, HFC.out, Nat.le_refl _⟩
 case round =>
  obtain ⟨p, k, us, rfl, hp, hus, hkn, H, HZ⟩ := hrel
  have c1 := cell_atD H.out.bs 0
  have c2 := cell_atD H.out.bn 0
  simp only [List.getElem?_toArray, List.getElem?_cons_zero] at c1 c2
  have HP := Lib.hid hp
  by_cases hlt : p < n
  ·have hiz : (p : Int) < (n : Int) := by omega
   have h0 : (0 : Int) <= (p : Int) := by omega
   have h1 : (p : Int).toNat = p := rfl
   have h2 : (p : Int) <= (n : Int) := by omega
   have h3 : (p : Int) <= (c : Int) := by omega
   obtain ⟨m, hm⟩ : ∃ m : Nat, min 16 (n - p) = m := ⟨_, rfl⟩
   have HM := Lib.hid hm
   have hmp : p + m <= n := by omega
   have hm0 : min (16 : Int) ((n - p : Nat) : Int) = (m : Int) := by omega
   have hm1 : min (16 : Int) ((n : Int) - (p : Int)) = (m : Int) := by omega
   obtain ⟨pe, hpe⟩ : ∃ pe : Nat, p + m = pe := ⟨_, rfl⟩
   have hs1 : IntKind.i64.wrap ((p : Int) + (m : Int)) = (pe : Int) := by rw [show (p : Int) + (m : Int) = (pe : Int) by omega]; exact IntWalk.i64_in _ (by omega)
   have hs2 : IntKind.i64.wrap ((p : Int) + 16) = ((p + 16 : Nat) : Int) := by rw [show (p : Int) + 16 = ((p + 16 : Nat) : Int) by omega]; exact IntWalk.i64_in _ (by omega)
   have ht0 : (pe : Int) <= (c : Int) := by omega
   have ht1 : (p : Int) <= (pe : Int) := by omega
   have ht2 : (pe : Int).toNat = pe := rfl
   have ht3 : (0 : Int) <= (pe : Int) := by omega
   clear hm hp
   gi_wp2
   gi_quiet (fail)
   gi_wp2
   have hbd : Below wr.heap.size wr (wr.drewN nq) := ⟨rfl, rfl, rfl, Nat.le_refl _, fun _ _ => rfl⟩
   have hsl : SlD (wr.drewN nq) (.slice (ao.map fun x => x.add (p * 2)) (pe - p) (pe - p)) (grp L k) := by
    have h1 := ((HV.out.low H.out.low H.out.sz).below hbd).cut HN.out p (pe - p) hlt (by omega)
    rw [show pe - p = m by omega] at h1 ⊢
    rwa [grp_cut HN.out HP.out HM.out] at h1
   have hkK : us.length < (n + 15) / 16 := by have := HP.out; omega
   have hy0 := HY.out us _ wr (wr.drewN nq) hkK H.out.j hbd ⟨by rw [hus, HP.out, HN.out]; exact hlt, by rw [hus]; exact hsl⟩
   obtain ⟨fn, tmps, assign, body, hy, hRd⟩ := hy0
   have HRd := Lib.hid hRd
   have HCut := Lib.hid hsl
   clear hRd hsl
   rw [hy]
   gi_wp2
   refine HRd.out.mono ?_
   rintro e V2 (⟨rfl, hJ6, hk6, hf6, hn6⟩ | ⟨rfl, hJx6⟩)
   ·have HFC2 : Hid (FC J w0 (.slice ao n c) Bs Bn V2 (us ++ [.slice (ao.map fun x => x.add (p * 2)) (pe - p) (pe - p)])) := by
     refine ⟨hk6.1.2 _ _ _ _ (by simp) H.out.bs, hk6.1.2 _ _ _ _ (by simp) H.out.bn, hJ6, fun q hq => ?_, Nat.le_trans H.out.sz hk6.1.1⟩
     exact (hk6.2 q hq (Nat.lt_of_lt_of_le hq H.out.sz)).trans (H.out.low q hq)
    have HZ2 : Hid (W.heap.size <= V2.heap.size) := Nat.le_trans HZ.out hk6.1.1
    have d2 := cell_atD HFC2.out.bn 0
    simp only [List.getElem?_toArray, List.getElem?_cons_zero] at d2
    have hul : (us ++ [Value.slice (ao.map fun x => x.add (p * 2)) (pe - p) (pe - p)]).length = k + 1 := by rw [List.length_append, List.length_singleton, hus]
    have hp2 : 16 * (k + 1) = p + 16 := by have := HP.out; omega
    have HUl := Lib.hid hul
    have HP2 := Lib.hid hp2
    clear hJ6 hk6 hf6 hn6 c1 c2 hul hp2 hbd
    gi_wp2
    go_roundw
    case rel => exact ⟨p + 16, k + 1, _, by go_num, HP2.out, HUl.out, by omega, HFC2.out, HZ2.out⟩
    case measure => simp [intOf]; omega
   ·have HJx := Lib.hid hJx6
    clear hJx6
    gi_wp2
    refine bodyPost_ret (results_none rfl _ _ _) rfl ?_
    exact ⟨⟨_, rfl⟩, .inr ⟨_, HJx.out⟩⟩
  ·have hiz : ¬ (p : Int) < (n : Int) := by omega
   have hk : us.length = (n + 15) / 16 := by omega
   have HJ := Lib.hid H.out.j
   clear H HZ
   gi_wp2
   go_end0
   exact ⟨⟨_, rfl⟩, .inl ⟨us, hk, HJ.out⟩⟩
end Go.Proofs.Ytjfclpicoamfaaa.Di
/- The program's iterator over a dictionary's entries. -/
set_option maxRecDepth 100000
namespace Go.Proofs.Ytjfclpicoamfaaa.Di
open Go.RowKit Go.Shelf
open Fr (bs)
open Po (Later SeqUp KeptIn Abides later_below kept_below)
attribute [local go_sem] Oper.semAt_some
set_option maxHeartbeats 8000000 in
theorem pdfrom1_up (t : ByteArray) (l : List UInt8) (hl : l.length <= 2000000000) (Bs Bt : Nat) (w : World)
  (hBs : w.heap[Bs]? = some (.cells #[.string (bs l)] 9 (0, 0))) (hBt : w.heap[Bt]? = some (.cells #[.string t] 9 (0, 0))) :
  SeqUp OkD PtsD Try.prog 39 #[.pointer (some ⟨Bs, 0, none⟩), .pointer (some ⟨Bt, 0, none⟩)] (EncD (fromD t l)) (KpT [9]) (fromD t l).length w := by
 obtain ⟨F, hF⟩ : ∃ F, fromD t l = F := ⟨_, rfl⟩
 have HF := Lib.hid hF
 rw [hF]
 clear hF
 intro l' J Jx W hW hAb hAbx hY hj0
 have hBW : W.heap[Bs]? = some (.cells #[.string (bs l)] 9 (0, 0)) := keepD hBs hW
 have hDW : W.heap[Bt]? = some (.cells #[.string t] 9 (0, 0)) := keepD hBt hW
 have HY := Lib.hid hY
 have HA := Lib.hid hAb
 have HDW := Lib.hid hDW
 have cs : W.cell? ⟨Bs, 0, none⟩ = some (.string (bs l)) := cell_atD hBW 0
 have ct : W.cell? ⟨Bt, 0, none⟩ = some (.string t) := cell_atD hDW 0
 have CS := Lib.hid (fun V => pdseek_any l t V hl)
 have hsk : ∃ (n : Nat) (r : List UInt8) (b : Bool), seekV (seekD t l) = .agg #[.int .i64 (n : Int), .string (bs r), .bool b] /\ F = goL t n 0 [] r /\ r.length <= l.length /\ n <= 1048576 := by
  rw [<- HF.out]
  unfold fromD
  cases h : seekD t l with
  | none => exact ⟨0, [], false, rfl, rfl, Nat.zero_le _, Nat.zero_le _⟩
  | some a =>
   obtain ⟨n, r⟩ := a
   exact ⟨n, r, true, rfl, rfl, seekD_len h, seekD_many h⟩
 obtain ⟨n0, r0, b0, hsv, hF0, hr0, hn0⟩ := hsk
 rw [hsv] at CS
 have HJ0 := Lib.hid hj0
 have HF0 := Lib.hid hF0
 clear hY hAb hAbx hW hBs hBt hBW hDW hj0 HF hsv hF0
 generalize bs l = s at *
 obtain ⟨R0, hR0⟩ : ∃ R0, bs r0 = R0 := ⟨_, rfl⟩
 have HR0 := Lib.hid hR0
 rw [hR0] at CS
 clear hR0
 refine (callsIn_wide (n := 1)).1 ?_
 refine callsIn_of_wp Try.func39 rfl trivial ?_ rfl
 simp only [Try.ntmps39, List.size_toArray, List.length_cons, List.length_nil, Nat.reduceAdd, Nat.reduceSub, Array.replicate_succ, Array.replicate_zero, List.push_toArray, List.append_toArray, List.nil_append, List.cons_append]
 gi_wp2
 refine ⟨trivial, ?_⟩
 gi_at_call 40
 refine (callsIn_wide.2 (CS.out W)).mono ?_
 rintro e w2 ⟨rfl, hb2⟩
 have HB2 := Lib.hid hb2
 clear hb2 cs ct
 obtain ⟨P, hP⟩ : ∃ P, w2.heap.size = P := ⟨_, rfl⟩
 obtain ⟨W3, hW3⟩ : ∃ W3, w2.alloc (.cells #[.int .i64 (n0 : Int), .string R0, .bool b0] 78) = W3 := ⟨_, rfl⟩
 have HW3 := Lib.hid hW3
 have hbx : Below w2.heap.size w2 W3 := by rw [<- hW3]; exact (Below.refl _ w2).alloc (Nat.le_refl _) _
 have HB3 : Hid (Below W.heap.size W W3) := HB2.out.trans (hbx.mono HB2.out.size)
 have hP3 : W3.heap[P]? = some (.cells #[.int .i64 (n0 : Int), .string R0, .bool b0] 78 (0, 0)) := by rw [<- hW3, <- hP]; exact heap_newD _ _
 have p0 : (w2.alloc (.cells #[.int .i64 (n0 : Int), .string R0, .bool b0] 78)).cell? ⟨P, 0, none⟩ = some (.int .i64 (n0 : Int)) := by rw [hW3]; exact cell_atD hP3 0
 have p1 : (w2.alloc (.cells #[.int .i64 (n0 : Int), .string R0, .bool b0] 78)).cell? ⟨P, 1, none⟩ = some (.string R0) := by rw [hW3]; exact cell_atD hP3 1
 clear hbx hW3 hP3
 gi_wp2
 rw [HW3.out]
 have HFD : Hid (FD J t F Bt 2000000000 W3 [] n0 0 ⟨#[]⟩ r0) :=
  ⟨keepD HDW.out HB3.out, HA.out [] W W3 HJ0.out (later_below HB3.out), (by rw [HF0.out]; rfl), Nat.zero_le _, by show 0 + _ <= _; omega⟩
 clear p0 p1 HJ0 HW3 HB2 HF0 CS HDW
 have hWz : W.heap.size <= W3.heap.size := HB3.out.size
 gi_loopw [5, 6, 16] (fun rv av iv wr => ∃ (n i : Nat) (p : ByteArray) (q : List UInt8) (us : List Value), rv = .string (bs q) /\ av = .string p /\ iv = .int .i64 (i : Int) /\ i + n = n0 /\ Hid (FD J t F Bt 2000000000 wr us n i p q) /\ Hid (W.heap.size <= wr.heap.size)) (fun _ _ iv _ => n0 - (intOf iv).toNat)
 case atStart => exact ⟨n0, 0, ⟨#[]⟩, r0, [], by rw [HR0.out], rfl, rfl, by omega, HFD.out, hWz⟩
 case round =>
  clear HFD hWz HB3
  obtain ⟨n, i, p, q, us, rfl, rfl, rfl, hin, H, HZ⟩ := hrel
  by_cases hlt : i < n0
  ·obtain ⟨n, rfl⟩ : ∃ n', n = n' + 1 := ⟨n - 1, by omega⟩
   have hiz : (i : Int) < (n0 : Int) := by omega
   have hi0 : (0 : Int) <= (i : Int) := by omega
   have HR : Hid (F.drop us.length = match dEnt (if i % 16 = 0 then [] else p.data.toList) q with
     | none => []
     | some (x, r) => (if geB x.t t = true then [x] else []) ++ goL t n (i + 1) x.t.data.toList r) := H.out.rest
   have hlen := H.out.len
   have hql : q.length <= 2000000000 := by omega
   by_cases hi16 : i % 16 = 0
   ·have hm1 : (i : Int).tmod 16 = 0 := by rw [Int.tmod_eq_emod_of_nonneg hi0]; omega
    have hm2 : (i : Int) % 16 = 0 := by omega
    rw [if_pos hi16] at HR
    obtain ⟨A, hA⟩ : ∃ A : ByteArray, (⟨#[]⟩ : ByteArray) = A := ⟨_, rfl⟩
    have hAl : A.size + q.length <= 2000000000 := by rw [<- hA]; show 0 + _ <= _; omega
    have hAd : ([] : List UInt8) = A.data.toList := by rw [<- hA]
    rw [hAd] at HR
    have CE := Lib.hid (fun V => pdentry_any q A V hql (by omega))
    clear hi16 hAd
    cases he : dEnt A.data.toList q with
    | none =>
     rw [he] at CE HR
     have HE : Hid (us.length = F.length) := by
      have h2 := H.out.le
      have h4 := congrArg List.length HR.out
      rw [List.length_drop, List.length_nil] at h4
      show _ = _
      omega
     have CE2 : Hid (∀ V, Calls Try.prog 41 #[.string (bs q), .string A] V fun e w' => e = .returned (.agg #[.string ⟨#[]⟩, .string ⟨#[]⟩, .string ⟨#[]⟩, .bool false]) /\ Below V.heap.size V w') := CE.out
     clear CE
     have CE := CE2
     clear CE2
     rw [<- hA] at CE
     clear hA he HR hAl
     generalize bs q = Q at *
     gi_wp2
     refine ⟨trivial, ?_⟩
     gi_at_call 41
     refine (callsIn_wide.2 (CE.out wr)).mono ?_
     rintro e w4 ⟨rfl, hb4⟩
     have HB4 := Lib.hid hb4
     clear hb4
     obtain ⟨X, hX⟩ : ∃ X, w4.heap.size = X := ⟨_, rfl⟩
     obtain ⟨W5, hW5⟩ : ∃ W5, w4.alloc (.cells #[.string ⟨#[]⟩, .string ⟨#[]⟩, .string ⟨#[]⟩, .bool false] 81) = W5 := ⟨_, rfl⟩
     have HW5 := Lib.hid hW5
     have hbx : Below w4.heap.size w4 W5 := by rw [<- hW5]; exact (Below.refl _ w4).alloc (Nat.le_refl _) _
     have HBx := Lib.hid hbx
     have HB5 : Hid (Below wr.heap.size wr W5) := HB4.out.trans (hbx.mono HB4.out.size)
     have hX5 : W5.heap[X]? = some (.cells #[.string ⟨#[]⟩, .string ⟨#[]⟩, .string ⟨#[]⟩, .bool false] 81 (0, 0)) := by rw [<- hW5, <- hX]; exact heap_newD _ _
     have HX5 := Lib.hid hX5
     have hT5 : W5.heap[Bt]? = some (.cells #[.string t] 9 (0, 0)) := keepD H.out.bd HB5.out
     have HT5 := Lib.hid hT5
     have x0 : (w4.alloc (.cells #[.string ⟨#[]⟩, .string ⟨#[]⟩, .string ⟨#[]⟩, .bool false] 81)).cell? ⟨X, 0, none⟩ = some (.string ⟨#[]⟩) := by rw [hW5]; exact cell_atD hX5 0
     have x1 : (w4.alloc (.cells #[.string ⟨#[]⟩, .string ⟨#[]⟩, .string ⟨#[]⟩, .bool false] 81)).cell? ⟨X, 1, none⟩ = some (.string ⟨#[]⟩) := by rw [hW5]; exact cell_atD hX5 1
     have x2 : (w4.alloc (.cells #[.string ⟨#[]⟩, .string ⟨#[]⟩, .string ⟨#[]⟩, .bool false] 81)).cell? ⟨X, 2, none⟩ = some (.string ⟨#[]⟩) := by rw [hW5]; exact cell_atD hX5 2
     have x3 : (w4.alloc (.cells #[.string ⟨#[]⟩, .string ⟨#[]⟩, .string ⟨#[]⟩, .bool false] 81)).cell? ⟨X, 3, none⟩ = some (.bool false) := by rw [hW5]; exact cell_atD hX5 3
     have ct : (w4.alloc (.cells #[.string ⟨#[]⟩, .string ⟨#[]⟩, .string ⟨#[]⟩, .bool false] 81)).cell? ⟨Bt, 0, none⟩ = some (.string t) := by rw [hW5]; exact cell_atD hT5 0
     have HJ4 : Hid (J us w4) := HA.out us wr w4 H.out.j (later_below HB4.out)
     have HJ5 : Hid (J us W5) := HA.out us wr W5 H.out.j (later_below HB5.out)
     have HZ5 : Hid (W.heap.size <= W5.heap.size) := Nat.le_trans HZ.out HB5.out.size
     have HLe := Lib.hid H.out.le
     clear hbx hX5 hT5 CE H HB4 HB5 hW5
     gi_wp2
     all_goals first
      | (exfalso; rename_i hh a1 a2 a3 a4 a5 a6 a7; simp only [undef, Option.some.injEq, reduceCtorEq] at hh; done)
      | (rw [HW5.out]; refine bodyPost_ret (results_none rfl _ _ _) rfl ?_; exact ⟨⟨_, rfl⟩, .inl ⟨_, HE.out, HJ5.out⟩⟩)
      | (refine ⟨(fun f h => by cases h), ?_⟩; gi_wp2; rw [HW5.out]; refine bodyPost_ret (results_none rfl _ _ _) rfl ?_; exact ⟨⟨_, rfl⟩, .inl ⟨_, HE.out, HJ5.out⟩⟩)
    | some a =>
     obtain ⟨⟨xt, xv⟩, r⟩ := a
     rw [he] at CE HR
     have hsz := dEnt_size he
     rw [str_len] at hsz
     dsimp only at hsz HR
     have CE2 : Hid (∀ V, Calls Try.prog 41 #[.string (bs q), .string A] V fun e w' => e = .returned (.agg #[.string xt, .string xv, .string (bs r), .bool true]) /\ Below V.heap.size V w') := CE.out
     clear CE
     have CE := CE2
     clear CE2
     rw [<- hA] at CE
     have hln2 : xt.size + r.length <= 2000000000 := by omega
     clear hA he hsz hAl
     obtain ⟨R, hR⟩ : ∃ R, bs r = R := ⟨_, rfl⟩
     have HRr := Lib.hid hR
     rw [hR] at CE
     clear hR
     generalize bs q = Q at *
     by_cases hg : geB xt t = true
     ·rw [if_pos hg] at HR
      have hg2 : Op.bytesLess xt.toList t.toList = false := by unfold geB less at hg; simpa using hg
      have hg3 : ¬ (Op.bytesLess t.toList xt.toList = false /\ (xt.toList == t.toList) = false) := fun hh => by
       have := less_total (a := t) (b := xt) hh.1 hg2
       subst this
       simp at hh
      clear hg
      gi_wp2
      refine ⟨trivial, ?_⟩
      gi_at_call 41
      refine (callsIn_wide.2 (CE.out wr)).mono ?_
      rintro e w4 ⟨rfl, hb4⟩
      have HB4 := Lib.hid hb4
      clear hb4
      obtain ⟨X, hX⟩ : ∃ X, w4.heap.size = X := ⟨_, rfl⟩
      obtain ⟨W5, hW5⟩ : ∃ W5, w4.alloc (.cells #[.string xt, .string xv, .string R, .bool true] 81) = W5 := ⟨_, rfl⟩
      have HW5 := Lib.hid hW5
      have hbx : Below w4.heap.size w4 W5 := by rw [<- hW5]; exact (Below.refl _ w4).alloc (Nat.le_refl _) _
      have HBx := Lib.hid hbx
      have HB5 : Hid (Below wr.heap.size wr W5) := HB4.out.trans (hbx.mono HB4.out.size)
      have hX5 : W5.heap[X]? = some (.cells #[.string xt, .string xv, .string R, .bool true] 81 (0, 0)) := by rw [<- hW5, <- hX]; exact heap_newD _ _
      have HX5 := Lib.hid hX5
      have hT5 : W5.heap[Bt]? = some (.cells #[.string t] 9 (0, 0)) := keepD H.out.bd HB5.out
      have HT5 := Lib.hid hT5
      have x0 : (w4.alloc (.cells #[.string xt, .string xv, .string R, .bool true] 81)).cell? ⟨X, 0, none⟩ = some (.string xt) := by rw [hW5]; exact cell_atD hX5 0
      have x1 : (w4.alloc (.cells #[.string xt, .string xv, .string R, .bool true] 81)).cell? ⟨X, 1, none⟩ = some (.string xv) := by rw [hW5]; exact cell_atD hX5 1
      have x2 : (w4.alloc (.cells #[.string xt, .string xv, .string R, .bool true] 81)).cell? ⟨X, 2, none⟩ = some (.string R) := by rw [hW5]; exact cell_atD hX5 2
      have x3 : (w4.alloc (.cells #[.string xt, .string xv, .string R, .bool true] 81)).cell? ⟨X, 3, none⟩ = some (.bool true) := by rw [hW5]; exact cell_atD hX5 3
      have ct : (w4.alloc (.cells #[.string xt, .string xv, .string R, .bool true] 81)).cell? ⟨Bt, 0, none⟩ = some (.string t) := by rw [hW5]; exact cell_atD hT5 0
      have HJ4 : Hid (J us w4) := HA.out us wr w4 H.out.j (later_below HB4.out)
      have HJ5 : Hid (J us W5) := HA.out us wr W5 H.out.j (later_below HB5.out)
      have HZ5 : Hid (W.heap.size <= W5.heap.size) := Nat.le_trans HZ.out HB5.out.size
      have HLe := Lib.hid H.out.le
      clear hbx hX5 hT5 CE H HB4 HB5 hW5
      obtain ⟨hi, hFi, hFr⟩ := drop_consD HR.out
      have HFr := Lib.hid hFr
      have HEn : Hid (EncD F us.length (.agg #[.string xt, .string xv]) W5) := ⟨hi, by rw [hFi]⟩
      have hy0 := HY.out us (.agg #[.string xt, .string xv]) w4 W5 hi HJ4.out HBx.out HEn.out
      obtain ⟨fn, tmps, assign, body, hy, hRd⟩ := hy0
      have HRd := Lib.hid hRd
      clear hRd hFi hFr
      gi_wp2
      rw [HW5.out, hy]
      gi_wp2
      refine HRd.out.mono ?_
      rintro e V2 (⟨rfl, hJ6, hk6, hf6, hn6⟩ | ⟨rfl, hJx6⟩)
      ·have hxl : X < W5.heap.size := ltD HX5.out
       have hx2 : V2.heap[X]? = some (.cells #[.string xt, .string xv, .string R, .bool true] 81 (0, 0)) := (hn6 X (by omega) hxl).trans HX5.out
       have cx0 := cell_atD hx2 0
       have cx2 := cell_atD hx2 2
       have HFD2 : Hid (FD J t F Bt 2000000000 V2 (us ++ [.agg #[.string xt, .string xv]]) n (i + 1) xt r) := by
        refine ⟨hk6.2 _ _ _ _ (by simp) HT5.out, hJ6, ?_, by rw [List.length_append, List.length_singleton]; omega, hln2⟩
        rw [List.length_append, List.length_singleton]
        exact HFr.out
       have HZ2 : Hid (W.heap.size <= V2.heap.size) := Nat.le_trans HZ5.out hk6.1
       clear hJ6 hk6 hf6 hn6 hx2 x0 x1 x2 x3 ct
       gi_wp2
       gi_quiet (fail)
       gi_wp2
       go_roundw
       case rel => exact ⟨n, i + 1, xt, r, _, by rw [HRr.out], rfl, by go_num, by omega, HFD2.out.drewN HA.out _, HZ2.out⟩
       case measure => simp [intOf]; omega
      ·have HJx := Lib.hid hJx6
       clear hJx6
       gi_wp2
       refine bodyPost_ret (results_none rfl _ _ _) rfl ?_
       exact ⟨⟨_, rfl⟩, .inr ⟨_, HJx.out⟩⟩
     ·rw [if_neg hg] at HR
      have hg2 : Op.bytesLess xt.toList t.toList = true := by unfold geB less at hg; simpa using hg
      have hg3 : Op.bytesLess t.toList xt.toList = false := less_asymm hg2
      have hg4 : (xt.toList == t.toList) = false := Fr.str_diff fun e => by
       have h2 : less xt t = true := hg2
       rw [e, less_irr] at h2; cases h2
      clear hg
      gi_wp2
      refine ⟨trivial, ?_⟩
      gi_at_call 41
      refine (callsIn_wide.2 (CE.out wr)).mono ?_
      rintro e w4 ⟨rfl, hb4⟩
      have HB4 := Lib.hid hb4
      clear hb4
      obtain ⟨X, hX⟩ : ∃ X, w4.heap.size = X := ⟨_, rfl⟩
      obtain ⟨W5, hW5⟩ : ∃ W5, w4.alloc (.cells #[.string xt, .string xv, .string R, .bool true] 81) = W5 := ⟨_, rfl⟩
      have HW5 := Lib.hid hW5
      have hbx : Below w4.heap.size w4 W5 := by rw [<- hW5]; exact (Below.refl _ w4).alloc (Nat.le_refl _) _
      have HBx := Lib.hid hbx
      have HB5 : Hid (Below wr.heap.size wr W5) := HB4.out.trans (hbx.mono HB4.out.size)
      have hX5 : W5.heap[X]? = some (.cells #[.string xt, .string xv, .string R, .bool true] 81 (0, 0)) := by rw [<- hW5, <- hX]; exact heap_newD _ _
      have HX5 := Lib.hid hX5
      have hT5 : W5.heap[Bt]? = some (.cells #[.string t] 9 (0, 0)) := keepD H.out.bd HB5.out
      have HT5 := Lib.hid hT5
      have x0 : (w4.alloc (.cells #[.string xt, .string xv, .string R, .bool true] 81)).cell? ⟨X, 0, none⟩ = some (.string xt) := by rw [hW5]; exact cell_atD hX5 0
      have x1 : (w4.alloc (.cells #[.string xt, .string xv, .string R, .bool true] 81)).cell? ⟨X, 1, none⟩ = some (.string xv) := by rw [hW5]; exact cell_atD hX5 1
      have x2 : (w4.alloc (.cells #[.string xt, .string xv, .string R, .bool true] 81)).cell? ⟨X, 2, none⟩ = some (.string R) := by rw [hW5]; exact cell_atD hX5 2
      have x3 : (w4.alloc (.cells #[.string xt, .string xv, .string R, .bool true] 81)).cell? ⟨X, 3, none⟩ = some (.bool true) := by rw [hW5]; exact cell_atD hX5 3
      have ct : (w4.alloc (.cells #[.string xt, .string xv, .string R, .bool true] 81)).cell? ⟨Bt, 0, none⟩ = some (.string t) := by rw [hW5]; exact cell_atD hT5 0
      have HJ4 : Hid (J us w4) := HA.out us wr w4 H.out.j (later_below HB4.out)
      have HJ5 : Hid (J us W5) := HA.out us wr W5 H.out.j (later_below HB5.out)
      have HZ5 : Hid (W.heap.size <= W5.heap.size) := Nat.le_trans HZ.out HB5.out.size
      have HLe := Lib.hid H.out.le
      clear hbx hX5 hT5 CE H HB4 HB5 hW5
      gi_wp2
      refine ⟨(fun f h => by cases h), ?_⟩
      gi_wp2
      rw [HW5.out]
      have cx0 := cell_atD HX5.out 0
      have cx2 := cell_atD HX5.out 2
      gi_quiet (fail)
      have HFD2 : Hid (FD J t F Bt 2000000000 W5 us n (i + 1) xt r) := ⟨HT5.out, HJ5.out, by rw [HR.out]; rfl, HLe.out, hln2⟩
      gi_wp2
      go_roundw
      case rel => exact ⟨n, i + 1, xt, r, us, by rw [HRr.out], rfl, by go_num, by omega, HFD2.out.drewN HA.out _, HZ5.out⟩
      case measure => simp [intOf]; omega
   ·have hm1 : ((i : Int).tmod 16 == 0) = false := by rw [Int.tmod_eq_emod_of_nonneg hi0, beq_eq_false_iff_ne]; omega
    have hm2 : ((i : Int) % 16 == 0) = false := by rw [beq_eq_false_iff_ne]; omega
    have hm3 : ¬ (i : Int) % 16 = 0 := by omega
    rw [if_neg hi16] at HR
    obtain ⟨A, hA⟩ : ∃ A : ByteArray, p = A := ⟨_, rfl⟩
    have hAl : A.size + q.length <= 2000000000 := by rw [<- hA]; exact hlen
    have hAd : p.data.toList = A.data.toList := by rw [hA]
    rw [hAd] at HR
    have CE := Lib.hid (fun V => pdentry_any q A V hql (by omega))
    clear hi16 hAd
    cases he : dEnt A.data.toList q with
    | none =>
     rw [he] at CE HR
     have HE : Hid (us.length = F.length) := by
      have h2 := H.out.le
      have h4 := congrArg List.length HR.out
      rw [List.length_drop, List.length_nil] at h4
      show _ = _
      omega
     have CE2 : Hid (∀ V, Calls Try.prog 41 #[.string (bs q), .string A] V fun e w' => e = .returned (.agg #[.string ⟨#[]⟩, .string ⟨#[]⟩, .string ⟨#[]⟩, .bool false]) /\ Below V.heap.size V w') := CE.out
     clear CE
     have CE := CE2
     clear CE2
     rw [<- hA] at CE
     clear hA he HR hAl
     generalize bs q = Q at *
     gi_wp2
     refine ⟨trivial, ?_⟩
     gi_at_call 41
     refine (callsIn_wide.2 (CE.out wr)).mono ?_
     rintro e w4 ⟨rfl, hb4⟩
     have HB4 := Lib.hid hb4
     clear hb4
     obtain ⟨X, hX⟩ : ∃ X, w4.heap.size = X := ⟨_, rfl⟩
     obtain ⟨W5, hW5⟩ : ∃ W5, w4.alloc (.cells #[.string ⟨#[]⟩, .string ⟨#[]⟩, .string ⟨#[]⟩, .bool false] 81) = W5 := ⟨_, rfl⟩
     have HW5 := Lib.hid hW5
     have hbx : Below w4.heap.size w4 W5 := by rw [<- hW5]; exact (Below.refl _ w4).alloc (Nat.le_refl _) _
     have HBx := Lib.hid hbx
     have HB5 : Hid (Below wr.heap.size wr W5) := HB4.out.trans (hbx.mono HB4.out.size)
     have hX5 : W5.heap[X]? = some (.cells #[.string ⟨#[]⟩, .string ⟨#[]⟩, .string ⟨#[]⟩, .bool false] 81 (0, 0)) := by rw [<- hW5, <- hX]; exact heap_newD _ _
     have HX5 := Lib.hid hX5
     have hT5 : W5.heap[Bt]? = some (.cells #[.string t] 9 (0, 0)) := keepD H.out.bd HB5.out
     have HT5 := Lib.hid hT5
     have x0 : (w4.alloc (.cells #[.string ⟨#[]⟩, .string ⟨#[]⟩, .string ⟨#[]⟩, .bool false] 81)).cell? ⟨X, 0, none⟩ = some (.string ⟨#[]⟩) := by rw [hW5]; exact cell_atD hX5 0
     have x1 : (w4.alloc (.cells #[.string ⟨#[]⟩, .string ⟨#[]⟩, .string ⟨#[]⟩, .bool false] 81)).cell? ⟨X, 1, none⟩ = some (.string ⟨#[]⟩) := by rw [hW5]; exact cell_atD hX5 1
     have x2 : (w4.alloc (.cells #[.string ⟨#[]⟩, .string ⟨#[]⟩, .string ⟨#[]⟩, .bool false] 81)).cell? ⟨X, 2, none⟩ = some (.string ⟨#[]⟩) := by rw [hW5]; exact cell_atD hX5 2
     have x3 : (w4.alloc (.cells #[.string ⟨#[]⟩, .string ⟨#[]⟩, .string ⟨#[]⟩, .bool false] 81)).cell? ⟨X, 3, none⟩ = some (.bool false) := by rw [hW5]; exact cell_atD hX5 3
     have ct : (w4.alloc (.cells #[.string ⟨#[]⟩, .string ⟨#[]⟩, .string ⟨#[]⟩, .bool false] 81)).cell? ⟨Bt, 0, none⟩ = some (.string t) := by rw [hW5]; exact cell_atD hT5 0
     have HJ4 : Hid (J us w4) := HA.out us wr w4 H.out.j (later_below HB4.out)
     have HJ5 : Hid (J us W5) := HA.out us wr W5 H.out.j (later_below HB5.out)
     have HZ5 : Hid (W.heap.size <= W5.heap.size) := Nat.le_trans HZ.out HB5.out.size
     have HLe := Lib.hid H.out.le
     clear hbx hX5 hT5 CE H HB4 HB5 hW5
     gi_wp2
     all_goals first
      | (exfalso; rename_i hh a1 a2 a3 a4 a5 a6 a7; simp only [undef, Option.some.injEq, reduceCtorEq] at hh; done)
      | (rw [HW5.out]; refine bodyPost_ret (results_none rfl _ _ _) rfl ?_; exact ⟨⟨_, rfl⟩, .inl ⟨_, HE.out, HJ5.out⟩⟩)
      | (refine ⟨(fun f h => by cases h), ?_⟩; gi_wp2; rw [HW5.out]; refine bodyPost_ret (results_none rfl _ _ _) rfl ?_; exact ⟨⟨_, rfl⟩, .inl ⟨_, HE.out, HJ5.out⟩⟩)
    | some a =>
     obtain ⟨⟨xt, xv⟩, r⟩ := a
     rw [he] at CE HR
     have hsz := dEnt_size he
     rw [str_len] at hsz
     dsimp only at hsz HR
     have CE2 : Hid (∀ V, Calls Try.prog 41 #[.string (bs q), .string A] V fun e w' => e = .returned (.agg #[.string xt, .string xv, .string (bs r), .bool true]) /\ Below V.heap.size V w') := CE.out
     clear CE
     have CE := CE2
     clear CE2
     rw [<- hA] at CE
     have hln2 : xt.size + r.length <= 2000000000 := by omega
     clear hA he hsz hAl
     obtain ⟨R, hR⟩ : ∃ R, bs r = R := ⟨_, rfl⟩
     have HRr := Lib.hid hR
     rw [hR] at CE
     clear hR
     generalize bs q = Q at *
     by_cases hg : geB xt t = true
     ·rw [if_pos hg] at HR
      have hg2 : Op.bytesLess xt.toList t.toList = false := by unfold geB less at hg; simpa using hg
      have hg3 : ¬ (Op.bytesLess t.toList xt.toList = false /\ (xt.toList == t.toList) = false) := fun hh => by
       have := less_total (a := t) (b := xt) hh.1 hg2
       subst this
       simp at hh
      clear hg
      gi_wp2
      refine ⟨trivial, ?_⟩
      gi_at_call 41
      refine (callsIn_wide.2 (CE.out wr)).mono ?_
      rintro e w4 ⟨rfl, hb4⟩
      have HB4 := Lib.hid hb4
      clear hb4
      obtain ⟨X, hX⟩ : ∃ X, w4.heap.size = X := ⟨_, rfl⟩
      obtain ⟨W5, hW5⟩ : ∃ W5, w4.alloc (.cells #[.string xt, .string xv, .string R, .bool true] 81) = W5 := ⟨_, rfl⟩
      have HW5 := Lib.hid hW5
      have hbx : Below w4.heap.size w4 W5 := by rw [<- hW5]; exact (Below.refl _ w4).alloc (Nat.le_refl _) _
      have HBx := Lib.hid hbx
      have HB5 : Hid (Below wr.heap.size wr W5) := HB4.out.trans (hbx.mono HB4.out.size)
      have hX5 : W5.heap[X]? = some (.cells #[.string xt, .string xv, .string R, .bool true] 81 (0, 0)) := by rw [<- hW5, <- hX]; exact heap_newD _ _
      have HX5 := Lib.hid hX5
      have hT5 : W5.heap[Bt]? = some (.cells #[.string t] 9 (0, 0)) := keepD H.out.bd HB5.out
      have HT5 := Lib.hid hT5
      have x0 : (w4.alloc (.cells #[.string xt, .string xv, .string R, .bool true] 81)).cell? ⟨X, 0, none⟩ = some (.string xt) := by rw [hW5]; exact cell_atD hX5 0
      have x1 : (w4.alloc (.cells #[.string xt, .string xv, .string R, .bool true] 81)).cell? ⟨X, 1, none⟩ = some (.string xv) := by rw [hW5]; exact cell_atD hX5 1
      have x2 : (w4.alloc (.cells #[.string xt, .string xv, .string R, .bool true] 81)).cell? ⟨X, 2, none⟩ = some (.string R) := by rw [hW5]; exact cell_atD hX5 2
      have x3 : (w4.alloc (.cells #[.string xt, .string xv, .string R, .bool true] 81)).cell? ⟨X, 3, none⟩ = some (.bool true) := by rw [hW5]; exact cell_atD hX5 3
      have ct : (w4.alloc (.cells #[.string xt, .string xv, .string R, .bool true] 81)).cell? ⟨Bt, 0, none⟩ = some (.string t) := by rw [hW5]; exact cell_atD hT5 0
      have HJ4 : Hid (J us w4) := HA.out us wr w4 H.out.j (later_below HB4.out)
      have HJ5 : Hid (J us W5) := HA.out us wr W5 H.out.j (later_below HB5.out)
      have HZ5 : Hid (W.heap.size <= W5.heap.size) := Nat.le_trans HZ.out HB5.out.size
      have HLe := Lib.hid H.out.le
      clear hbx hX5 hT5 CE H HB4 HB5 hW5
      obtain ⟨hi, hFi, hFr⟩ := drop_consD HR.out
      have HFr := Lib.hid hFr
      have HEn : Hid (EncD F us.length (.agg #[.string xt, .string xv]) W5) := ⟨hi, by rw [hFi]⟩
      have hy0 := HY.out us (.agg #[.string xt, .string xv]) w4 W5 hi HJ4.out HBx.out HEn.out
      obtain ⟨fn, tmps, assign, body, hy, hRd⟩ := hy0
      have HRd := Lib.hid hRd
      clear hRd hFi hFr
      gi_wp2
      rw [HW5.out, hy]
      gi_wp2
      refine HRd.out.mono ?_
      rintro e V2 (⟨rfl, hJ6, hk6, hf6, hn6⟩ | ⟨rfl, hJx6⟩)
      ·have hxl : X < W5.heap.size := ltD HX5.out
       have hx2 : V2.heap[X]? = some (.cells #[.string xt, .string xv, .string R, .bool true] 81 (0, 0)) := (hn6 X (by omega) hxl).trans HX5.out
       have cx0 := cell_atD hx2 0
       have cx2 := cell_atD hx2 2
       have HFD2 : Hid (FD J t F Bt 2000000000 V2 (us ++ [.agg #[.string xt, .string xv]]) n (i + 1) xt r) := by
        refine ⟨hk6.2 _ _ _ _ (by simp) HT5.out, hJ6, ?_, by rw [List.length_append, List.length_singleton]; omega, hln2⟩
        rw [List.length_append, List.length_singleton]
        exact HFr.out
       have HZ2 : Hid (W.heap.size <= V2.heap.size) := Nat.le_trans HZ5.out hk6.1
       clear hJ6 hk6 hf6 hn6 hx2 x0 x1 x2 x3 ct
       gi_wp2
       gi_quiet (fail)
       gi_wp2
       go_roundw
       case rel => exact ⟨n, i + 1, xt, r, _, by rw [HRr.out], rfl, by go_num, by omega, HFD2.out.drewN HA.out _, HZ2.out⟩
       case measure => simp [intOf]; omega
      ·have HJx := Lib.hid hJx6
       clear hJx6
       gi_wp2
       refine bodyPost_ret (results_none rfl _ _ _) rfl ?_
       exact ⟨⟨_, rfl⟩, .inr ⟨_, HJx.out⟩⟩
     ·rw [if_neg hg] at HR
      have hg2 : Op.bytesLess xt.toList t.toList = true := by unfold geB less at hg; simpa using hg
      have hg3 : Op.bytesLess t.toList xt.toList = false := less_asymm hg2
      have hg4 : (xt.toList == t.toList) = false := Fr.str_diff fun e => by
       have h2 : less xt t = true := hg2
       rw [e, less_irr] at h2; cases h2
      clear hg
      gi_wp2
      refine ⟨trivial, ?_⟩
      gi_at_call 41
      refine (callsIn_wide.2 (CE.out wr)).mono ?_
      rintro e w4 ⟨rfl, hb4⟩
      have HB4 := Lib.hid hb4
      clear hb4
      obtain ⟨X, hX⟩ : ∃ X, w4.heap.size = X := ⟨_, rfl⟩
      obtain ⟨W5, hW5⟩ : ∃ W5, w4.alloc (.cells #[.string xt, .string xv, .string R, .bool true] 81) = W5 := ⟨_, rfl⟩
      have HW5 := Lib.hid hW5
      have hbx : Below w4.heap.size w4 W5 := by rw [<- hW5]; exact (Below.refl _ w4).alloc (Nat.le_refl _) _
      have HBx := Lib.hid hbx
      have HB5 : Hid (Below wr.heap.size wr W5) := HB4.out.trans (hbx.mono HB4.out.size)
      have hX5 : W5.heap[X]? = some (.cells #[.string xt, .string xv, .string R, .bool true] 81 (0, 0)) := by rw [<- hW5, <- hX]; exact heap_newD _ _
      have HX5 := Lib.hid hX5
      have hT5 : W5.heap[Bt]? = some (.cells #[.string t] 9 (0, 0)) := keepD H.out.bd HB5.out
      have HT5 := Lib.hid hT5
      have x0 : (w4.alloc (.cells #[.string xt, .string xv, .string R, .bool true] 81)).cell? ⟨X, 0, none⟩ = some (.string xt) := by rw [hW5]; exact cell_atD hX5 0
      have x1 : (w4.alloc (.cells #[.string xt, .string xv, .string R, .bool true] 81)).cell? ⟨X, 1, none⟩ = some (.string xv) := by rw [hW5]; exact cell_atD hX5 1
      have x2 : (w4.alloc (.cells #[.string xt, .string xv, .string R, .bool true] 81)).cell? ⟨X, 2, none⟩ = some (.string R) := by rw [hW5]; exact cell_atD hX5 2
      have x3 : (w4.alloc (.cells #[.string xt, .string xv, .string R, .bool true] 81)).cell? ⟨X, 3, none⟩ = some (.bool true) := by rw [hW5]; exact cell_atD hX5 3
      have ct : (w4.alloc (.cells #[.string xt, .string xv, .string R, .bool true] 81)).cell? ⟨Bt, 0, none⟩ = some (.string t) := by rw [hW5]; exact cell_atD hT5 0
      have HJ4 : Hid (J us w4) := HA.out us wr w4 H.out.j (later_below HB4.out)
      have HJ5 : Hid (J us W5) := HA.out us wr W5 H.out.j (later_below HB5.out)
      have HZ5 : Hid (W.heap.size <= W5.heap.size) := Nat.le_trans HZ.out HB5.out.size
      have HLe := Lib.hid H.out.le
      clear hbx hX5 hT5 CE H HB4 HB5 hW5
      gi_wp2
      refine ⟨(fun f h => by cases h), ?_⟩
      gi_wp2
      rw [HW5.out]
      have cx0 := cell_atD HX5.out 0
      have cx2 := cell_atD HX5.out 2
      gi_quiet (fail)
      have HFD2 : Hid (FD J t F Bt 2000000000 W5 us n (i + 1) xt r) := ⟨HT5.out, HJ5.out, by rw [HR.out]; rfl, HLe.out, hln2⟩
      gi_wp2
      go_roundw
      case rel => exact ⟨n, i + 1, xt, r, us, by rw [HRr.out], rfl, by go_num, by omega, HFD2.out.drewN HA.out _, HZ5.out⟩
      case measure => simp [intOf]; omega
  ·have hiz : ¬ (i : Int) < (n0 : Int) := by omega
   obtain rfl : n = 0 := by omega
   have HE : Hid (us.length = F.length /\ J us wr) := by
    have h1 := H.out.rest
    have h2 := H.out.le
    rw [goL] at h1
    have h4 := congrArg List.length h1
    rw [List.length_drop, List.length_nil] at h4
    exact ⟨by omega, H.out.j⟩
   clear H HZ
   gi_wp2
   go_end0
   exact ⟨⟨_, rfl⟩, .inl ⟨_, HE.out.1, HE.out.2⟩⟩
end Go.Proofs.Ytjfclpicoamfaaa.Di
/- The program's from: the contract of its iterator; entries taken one behind the other into a row of one's own. -/
set_option maxRecDepth 100000
namespace Go.Proofs.Ytjfclpicoamfaaa.Di
open Go.RowKit Go.Shelf
open Fr (bs)
open Po (Later SeqUp KeptIn later_below kept_below)
attribute [local go_sem] Oper.semAt_some
theorem pdfrom_any (t : ByteArray) (l : List UInt8) (hl : l.length <= 2000000000) (w : World) : Calls Try.prog 29 #[.string (bs l), .string t] w fun e w' =>
  (∃ gf lb, e = .returned (.func (.func gf) #[] lb) /\ (∀ args W, (callFunc gf args).run Try.prog W = .ok (.enter gf args) W) /\ SeqUp OkD PtsD Try.prog gf lb (EncD (fromD t l)) (KpT [9]) (fromD t l).length w') /\ Below w.heap.size w w' := by
 obtain ⟨W1, hW1⟩ : ∃ W1, (w.alloc (.cells #[.string (bs l)] 9)).alloc (.cells #[.string t] 9) = W1 := ⟨_, rfl⟩
 have hb1 : Below w.heap.size w W1 := by rw [<- hW1]; exact ((Below.refl _ w).alloc (Nat.le_refl _) _).alloc (by simp) _
 have h1 : W1.heap[w.heap.size]? = some (.cells #[.string (bs l)] 9 (0, 0)) := by
  rw [<- hW1, ((Below.refl _ (w.alloc (.cells #[.string (bs l)] 9))).alloc (Nat.le_refl _) _).block _ (by simp)]
  exact heap_newD w _
 have h2 : W1.heap[w.heap.size + 1]? = some (.cells #[.string t] 9 (0, 0)) := by
  have := heap_newD (w.alloc (.cells #[.string (bs l)] 9)) (.cells #[.string t] 9)
  rwa [World.size_alloc, hW1] at this
 have HS := Lib.hid (pdfrom1_up t l hl w.heap.size (w.heap.size + 1) W1 h1 h2)
 have HB := Lib.hid hb1
 have HW := Lib.hid hW1
 clear h1 h2 hb1 hW1
 generalize bs l = s at *
 go_enter Try.func29, Try.ntmps29
 go_wp2
 rw [HW.out]
 go_ret
 exact ⟨⟨_, _, rfl, enters_of Try.func39 (by kernel_rfl) rfl, HS.out⟩, HB.out⟩
theorem own_succD {w : World} {B : Nat} {e : TypeId} {k : Nat} {v : Value} {n : Nat} {xs : List Value} (h : w.ownsRow B e k v (n + 1) xs) : ∃ g cap, v = .slice (some ⟨g, 0, none⟩) (n + 1) cap := by
 rcases h.2 with ⟨_, h0⟩ | ⟨g, cap, _, rfl, _⟩
 ·omega
 ·exact ⟨g, cap, rfl⟩
structure FA (w : World) (Bm : Nat) (F : List En) (us : List Value) (v : Value) (V : World) : Prop where
 bo : Boxed V Bm 22 v
 le : us.length <= F.length
 row : V.ownsRow w.heap.size 43 2 v us.length (flatD (F.take us.length))
 below : Below w.heap.size w V
 hi : w.heap.size <= Bm
theorem FA.later {w : World} {Bm : Nat} {F : List En} {us us' : List Value} {v : Value} {V V' : World} {B : Nat} (h : FA w Bm F us v V) (hB : w.heap.size <= B) (hl : Later OkD PtsD B us' V V') : FA w Bm F us v V' := by
 have kb : ∀ {k : Nat} {cs : Array Value} {t : TypeId} {p : Nat × Nat}, V.heap[k]? = some (.cells cs t p) -> V'.heap[k]? = some (.cells cs t p) := fun {k cs t p} hk => by
  rcases hl.block k (Array.getElem?_eq_some_iff.1 hk).1 with e | ⟨_, o, ho, ho2⟩
  ·exact e.trans hk
  ·rw [hk] at ho
   cases ho
   rcases ho2 with ho2 | ⟨ho2, _⟩
   ·cases ho2
   ·exact ho2.elim
 refine ⟨kb h.bo, h.le, ⟨h.row.1, ?_⟩, ⟨hl.os.trans h.below.os, hl.tape.trans h.below.tape, hl.output.trans h.below.output, Nat.le_trans h.below.size hl.size, fun k hk => ?_⟩, h.hi⟩
 ·rcases h.row.2 with hn | ⟨g, cap, cur, e, hbg, hg, rest⟩
  ·exact .inl hn
  ·exact .inr ⟨g, cap, cur, e, hbg, kb hg, rest⟩
 ·have hk' := h.below.size
  rcases hl.block k (by omega) with e | ⟨e, _⟩
  ·rw [e, h.below.block k hk]
  ·omega
theorem FA.own {w : World} {Bm : Nat} {F : List En} {us : List Value} {v : Value} {V : World} (h : FA w Bm F us v V) : OwnD w.heap.size V 43 v (F.take us.length) := by
 unfold OwnD
 rw [List.length_take, Nat.min_eq_left h.le]
 exact h.row
theorem FA.lt {w : World} {Bm : Nat} {F : List En} {us : List Value} {v : Value} {V : World} (h : FA w Bm F us v V) {q : Nat} (hq : v.ownBlock = some q) : q < V.heap.size := (World.ownsRow.lt h.row q hq).2
theorem FA.app {w : World} {Bm : Nat} {F : List En} {us : List Value} {u : Value} {v v' : Value} {V w1 : World} {tmp : Obj} (h : FA w Bm F us v V) (h1 : us.length < F.length)
  (hown : w1.ownsRow w.heap.size 43 2 v' (us.length + 1) (flatD (F.take us.length) ++ [.string F[us.length].t, .string F[us.length].v])) (hgrow : (V.alloc tmp).grownBy w1 v.ownBlock) :
  Boxed w1 Bm 22 v /\ FA w Bm F (us ++ [u]) v' (w1.setCell ⟨Bm, 0, none⟩ v') /\ KeepsOthers V (w1.setCell ⟨Bm, 0, none⟩ v') /\ KpT [9] V (w1.setCell ⟨Bm, 0, none⟩ v') := by
 obtain ⟨a1, a2, a3, a4, a5⟩ := h.bo.appended (by decide) h.row h.below.size h.hi hown hgrow
 refine ⟨a1, ⟨a2, by rw [List.length_append, List.length_singleton]; omega, ?_, h.below.trans a5, h.hi⟩, a4, a4.size, fun k cs t s ht hk => ?_⟩
 ·rw [List.length_append, List.length_singleton, List.take_succ_eq_append_getElem h1, flatD_snoc]
  exact a3
 ·have ht2 : t = 9 := by simpa using ht
  subst ht2
  have hlt : k < V.heap.size := (Array.getElem?_eq_some_iff.1 hk).1
  have e1 : (V.alloc tmp).heap[k]? = some (Obj.cells cs 9 s) := by
   rw [((Below.refl _ V).alloc (Nat.le_refl _) tmp).block k hlt]; exact hk
  have e2 : w1.heap[k]? = some (Obj.cells cs 9 s) := by
   rw [hgrow.block k (by rw [World.size_alloc]; omega) (fun e => ?_)]
   ·exact e1
   ·rcases h.row.2 with ⟨rfl, _⟩ | ⟨g, cap, cur, rfl, _, hg, _⟩
    ·cases e
    ·have : k = g := by injection e
     subst this
     rw [hk] at hg
     injection hg with hg
     injection hg with _ hg _
     exact absurd hg (by decide)
  rw [(grownBy_setCell' w1 Bm v').block k (Array.getElem?_eq_some_iff.1 e2).1 (fun e => ?_)]
  ·exact e2
  ·have : k = Bm := by injection e
   subst this
   have a1' : w1.heap[k]? = _ := a1
   rw [e2] at a1'
   injection a1' with a1'
   injection a1' with _ a1' _
   exact absurd a1' (by decide)
theorem kept_appD {N B : Nat} {V w1 : World} {tmp : Obj} {v v' : Value} (hgrow : (V.alloc tmp).grownBy w1 v.ownBlock) (hB : B < N) (hv : ∀ q, v.ownBlock = some q -> q < N) : KeptIn N V (w1.setCell ⟨B, 0, none⟩ v') := fun q h1 h2 => by
 have e1 : (V.alloc tmp).heap[q]? = V.heap[q]? := ((Below.refl _ V).alloc (Nat.le_refl _) tmp).block q h2
 have h3 : q < (V.alloc tmp).heap.size := by rw [World.size_alloc]; omega
 have h4 := hgrow.size
 rw [(grownBy_setCell' w1 B v').block q (by omega) (fun e => by cases e; omega), hgrow.block q h3 (fun e => by have := hv q e.symm; omega)]
 exact e1
theorem FA.same {w : World} {Bm : Nat} {F : List En} {us : List Value} {v0 v' : Value} {V0 V : World} (h0 : FA w Bm F us v0 V0) (hb : Below V0.heap.size V0 V) (hv : Boxed V Bm 22 v') : v' = v0 := by
 have e3 : V.heap[Bm]? = some (.cells #[v'] 22 (0, 0)) := hv
 have e4 : V.heap[Bm]? = some (.cells #[v0] 22 (0, 0)) := keepD h0.bo hb
 rw [e3] at e4
 injection e4 with e4
 injection e4 with e4 _ _
 simpa using e4
theorem SlD.put {w : World} {v : Value} {L : List En} (h : SlD w v L) {l : Nat} {o o' : Obj} (hl : w.heap[l]? = some o) (hc : o.isCells = false) : SlD (w.putObj l o') v L := by
 have hs := (grownBy_putObj' w l o').size
 have hb : ∀ a u, w.cell? a = some u -> (w.putObj l o').cell? a = some u := fun a u e => cell_kept e (grownBy_putObj' w l o') (fun r hr => by cases hr; exact ⟨o, hl, hc⟩)
 obtain ⟨ao, c, hv, hlc, hcc⟩ := h
 refine ⟨ao, c, hv, hlc, fun j hj => ?_⟩
 obtain ⟨g, off, e, hg, h1, h2⟩ := hcc j hj
 exact ⟨g, off, e, Nat.lt_of_lt_of_le hg hs, hb _ _ h1, hb _ _ h2⟩
end Go.Proofs.Ytjfclpicoamfaaa.Di
/- The program's Get. -/
set_option maxRecDepth 100000
namespace Go.Proofs.Ytjfclpicoamfaaa.Di
open Go.RowKit Go.Shelf
open Fr (bs)
open Po (Later SeqUp KeptIn later_below kept_below)
attribute [local go_sem] Oper.semAt_some
def firstD (t : ByteArray) : List En -> Option ByteArray
 | [] => none
 | x :: _ => if less t x.t = true then none else some x.v
theorem look_first (t : ByteArray) (L : List En) (h : L.Pairwise upE) : lookD L t = firstD t (geL t L) := by
 rw [look_head t L h]
 cases geL t L <;> rfl
structure GI (w : World) (Z : Nat) (t x : ByteArray) (b : Bool) (V : World) : Prop where
 b0 : Boxed V Z 9 (.string t)
 b1 : Boxed V (Z + 1) 9 (.string x)
 b2 : Boxed V (Z + 1 + 1) 4 (.bool b)
 below : Below w.heap.size w V
theorem GI.later {w : World} {Z : Nat} {t x : ByteArray} {b : Bool} {us : List Value} {V V' : World} {B : Nat} (h : GI w Z t x b V) (hB : w.heap.size <= B) (hl : Later OkD PtsD B us V V') : GI w Z t x b V' := by
 have kb : ∀ {k : Nat} {cs : Array Value} {t : TypeId} {p : Nat × Nat}, V.heap[k]? = some (.cells cs t p) -> V'.heap[k]? = some (.cells cs t p) := fun {k cs t p} hk => by
  rcases hl.block k (Array.getElem?_eq_some_iff.1 hk).1 with e | ⟨_, o, ho, ho2⟩
  ·exact e.trans hk
  ·rw [hk] at ho
   cases ho
   rcases ho2 with ho2 | ⟨ho2, _⟩
   ·cases ho2
   ·exact ho2.elim
 refine ⟨kb h.b0, kb h.b1, kb h.b2, ⟨hl.os.trans h.below.os, hl.tape.trans h.below.tape, hl.output.trans h.below.output, Nat.le_trans h.below.size hl.size, fun k hk => ?_⟩⟩
 have hk' := h.below.size
 rcases hl.block k (by omega) with e | ⟨e, _⟩
 ·rw [e, h.below.block k hk]
 ·omega
theorem GI.set {w : World} {Z : Nat} {t x : ByteArray} {b : Bool} {V : World} (h : GI w Z t x b V) (hz : w.heap.size <= Z) (x' : ByteArray) (b' : Bool) : GI w Z t x' b' ((V.setCell ⟨Z + 1, 0, none⟩ (.string x')).setCell ⟨Z + 1 + 1, 0, none⟩ (.bool b')) :=
 ⟨(h.b0.other (by omega) _).other (by omega) _, (h.b1.set _).other (by omega) _, (h.b2.other (by omega) _).set _, (h.below.setCell (p := ⟨Z + 1, 0, none⟩) (by show _ <= Z + 1; omega) _).setCell (p := ⟨Z + 1 + 1, 0, none⟩) (by show _ <= Z + 1 + 1; omega) _⟩
theorem GI.ends {w : World} {Z : Nat} {t x : ByteArray} {b : Bool} {V : World} (h : GI w Z t x b V) {D : Nat} {o o' : Obj} (hk : V.heap[D]? = some o) (ho : o.isCells = false) : Boxed (V.putObj D o') (Z + 1) 9 (.string x) /\ Boxed (V.putObj D o') (Z + 1 + 1) 4 (.bool b) :=
 ⟨((grownBy_putObj' V D _).block _ h.b1.lt (fun e => by have := h.b1; cases e; rw [Boxed, hk] at this; cases this; cases ho)).trans h.b1, ((grownBy_putObj' V D _).block _ h.b2.lt (fun e => by have := h.b2; cases e; rw [Boxed, hk] at this; cases this; cases ho)).trans h.b2⟩
theorem results_two {fn : Func} {p q : Tmp} (h : fn.results = #[.cell p 9, .cell q 4]) (tmps : Array Value) (w : World) {g k : Nat} {x : ByteArray} {b : Bool}
  (hp : tmps.getD p undef = .pointer (some ⟨g, 0, none⟩)) (hq : tmps.getD q undef = .pointer (some ⟨k, 0, none⟩)) (h1 : Boxed w g 9 (.string x)) (h2 : Boxed w k 4 (.bool b)) :
  (results fn tmps).run Try.prog w = .ok (.tuple #[.string x, .bool b]) w := by
 have hp' : tmps[p]?.getD undef = .pointer (some ⟨g, 0, none⟩) := by simpa using hp
 have hq' : tmps[q]?.getD undef = .pointer (some ⟨k, 0, none⟩) := by simpa using hq
 have c1 := h1.cell
 have c2 := h2.cell
 have u1 := Try.underlying9
 have u2 := Try.underlying4
 simp [results, h, hp', hq', asAddr, loadVar, Sem.run_bind, Result.andThen, go_sem, c1, c2, u1, u2]
set_option maxHeartbeats 8000000 in
theorem pdget_of (F : List En) (s t : ByteArray) (w : World)
  (CF : ∀ W, Calls Try.prog 29 #[.string s, .string t] W fun e w' =>
   (∃ gf lb, e = .returned (.func (.func gf) #[] lb) /\ (∀ args W, (callFunc gf args).run Try.prog W = .ok (.enter gf args) W) /\ SeqUp OkD PtsD Try.prog gf lb (EncD F) (KpT [9]) F.length w') /\ Below W.heap.size W w') :
  Calls Try.prog 22 #[.string s, .string t] w fun e w' => e = .returned (getV (firstD t F)) /\ Below w.heap.size w w' := by
 obtain ⟨Z, hZ⟩ : ∃ Z, w.heap.size = Z := ⟨_, rfl⟩
 obtain ⟨W1, hW1⟩ : ∃ W1, ((w.alloc (.cells #[.string t] 9)).alloc (.cells #[.string ⟨#[]⟩] 9)).alloc (.cells #[.bool false] 4) = W1 := ⟨_, rfl⟩
 have b2 : Boxed W1 (Z + 1 + 1) 4 (.bool false) := by rw [<- hW1, <- hZ]; have := Boxed.new ((w.alloc (.cells #[.string t] 9)).alloc (.cells #[.string ⟨#[]⟩] 9)) 4 (.bool false); simpa using this
 have b1 : Boxed W1 (Z + 1) 9 (.string ⟨#[]⟩) := by rw [<- hW1, <- hZ]; have := Boxed.new (w.alloc (.cells #[.string t] 9)) 9 (.string ⟨#[]⟩); exact Boxed.alloc (by simpa using this) _
 have b0 : Boxed W1 Z 9 (.string t) := by rw [<- hW1, <- hZ]; exact ((Boxed.new w 9 (.string t)).alloc _).alloc _
 have hb : Below w.heap.size w W1 := by rw [<- hW1]; exact ((((Below.refl _ w).alloc (Nat.le_refl _) _).alloc (by simp) _).alloc (by simp; omega) _)
 have HG : Hid (GI w Z t ⟨#[]⟩ false W1) := ⟨b0, b1, b2, hb⟩
 obtain ⟨res, hres⟩ : ∃ res, getV (firstD t F) = res := ⟨_, rfl⟩
 rw [hres]
 have c0 := b0.cell
 have HRes := Lib.hid hres
 have CF := Lib.hid CF
 have HW1 := Lib.hid hW1
 have HZ := Lib.hid hZ
 have hs1 : W1.heap.size = Z + 3 := by rw [<- hW1, <- hZ]; simp
 have HS1 := Lib.hid hs1
 clear b0 b1 b2 hb hres hs1
 refine (callsIn_wide (n := 9)).1 ?_
 refine callsIn_of_wp_marks Try.func22 rfl trivial ?_ rfl
 simp only [Try.ntmps22, List.size_toArray, List.length_cons, List.length_nil, Nat.reduceAdd, Nat.reduceSub, Array.replicate_succ, Array.replicate_zero, List.push_toArray, List.append_toArray, List.nil_append, List.cons_append]
 gi_wp2
 refine ⟨trivial, ?_⟩
 gi_at_call 29
 refine (callsIn_wide.2 (CF.out W1)).mono ?_
 rintro e w2 ⟨⟨gf, lb, rfl, heg, hsq⟩, hb2⟩
 have HSq := Lib.hid hsq
 have HEg := Lib.hid heg
 have HG2 : Hid (GI w Z t ⟨#[]⟩ false w2) := ⟨keepD HG.out.b0 hb2, keepD HG.out.b1 hb2, keepD HG.out.b2 hb2, HG.out.below.trans (hb2.mono HG.out.below.size)⟩
 have hs2 : Z + 3 <= w2.heap.size := by rw [<- HS1.out]; exact hb2.size
 clear hsq heg hb2 CF c0
 gi_wp2
 refine Po.range_up rfl HEg.out HSq.out kpt_t kpt_b (Below.refl _ _) rfl
  (fun us V => us = [] /\ GI w Z t ⟨#[]⟩ false V)
  (fun c us V => (c = .ret /\ ∃ h : 0 < F.length, less t F[0].t = false /\ GI w Z t F[0].v true V) \/ (c = .exit 0 /\ ∃ h : 0 < F.length, less t F[0].t = true /\ GI w Z t ⟨#[]⟩ false V)) ?abI ?abX ⟨rfl, HG2.out⟩
  (fun N us u a' V => ∃ X, ∃ h : 0 < F.length, u = .agg #[.string F[0].t, .string F[0].v] /\ V.heap[X]? = some (.cells #[.string F[0].t, .string F[0].v] 43 (0, 0)) /\
   a' = { tmps := #[.string s, .string t, undef, .pointer (some ⟨Z, 0, none⟩), .pointer (some ⟨Z + 1, 0, none⟩), .pointer (some ⟨Z + 1 + 1, 0, none⟩), .pointer (some ⟨X, 0, none⟩), .string s, .string t, .func (.func gf) #[] lb, u, undef, undef, undef, undef, undef, undef], defers := [] })
  ?axp ?assign ?body ?done ?stop
 case abI =>
  rintro us X Y ⟨h0, h⟩ hl
  exact ⟨h0, h.later (by omega) hl⟩
 case abX =>
  rintro c us X Y (⟨h0, h1, h2, h⟩ | ⟨h0, h1, h2, h⟩) hl
  ·exact .inl ⟨h0, h1, h2, h.later (by omega) hl⟩
  ·exact .inr ⟨h0, h1, h2, h.later (by omega) hl⟩
 case axp =>
  rintro N us u a' V l' o o' hl ho hc ⟨X, h1, h2, h4, h7⟩
  refine ⟨X, h1, h2, ?_, h7⟩
  rw [(grownBy_putObj' V l' o').block X (Array.getElem?_eq_some_iff.1 h4).1 (fun e => by cases e; rw [h4] at ho; cases ho; cases hc)]
  exact h4
 case assign =>
  rintro l' us u W0 V R hk ⟨rfl, h0⟩ hbe hw0 ⟨_, h⟩ ⟨h1, rfl⟩ hR
  have hb : Below V.heap.size V (V.alloc (.cells #[.string F[0].t, .string F[0].v] 43)) := (Below.refl _ V).alloc (Nat.le_refl _) _
  have hR2 := hR _ (V.alloc (.cells #[.string F[0].t, .string F[0].v] 43)) ((KeepsOthers.alloc _ _).from _) (kpt_below hb) (kept_below hb) ⟨rfl, h.later (B := w2.heap.size) (us := []) (by omega) (later_below hb)⟩
   ⟨V.heap.size, h1, rfl, heap_newD V _, rfl⟩
  clear hR hb
  gi_wp2
  exact hR2
 case body =>
  rintro l' N us u a' V hk ⟨rfl, h⟩ ⟨X, h1, rfl, h3, rfl⟩
  have p0 : V.cell? ⟨X, 0, none⟩ = some (.string F[0].t) := cell_atD h3 0
  have p1 : V.cell? ⟨X, 1, none⟩ = some (.string F[0].v) := cell_atD h3 1
  have q0 := h.b0.cell
  have q1 := h.b1.cell
  have q2 := h.b2.cell
  have r1 := h.b1.frozen
  have r2 := h.b2.frozen
  have q2' : (V.setCell ⟨Z + 1, 0, none⟩ (.string F[0].v)).cell? ⟨Z + 1 + 1, 0, none⟩ = some (.bool false) := (h.b2.other (by omega) _).cell
  have r2' : (V.setCell ⟨Z + 1, 0, none⟩ (.string F[0].v)).frozen? ⟨Z + 1 + 1, 0, none⟩ = false := (h.b2.other (by omega) _).frozen
  have H := Lib.hid h
  have HSet := Lib.hid (h.set (by omega) F[0].v true)
  have HK : Hid (KeepsFrom w2.heap.size V ((V.setCell ⟨Z + 1, 0, none⟩ (.string F[0].v)).setCell ⟨Z + 1 + 1, 0, none⟩ (.bool true))) :=
   (KeepsFrom.of_grownBy (grownBy_setCell' V (Z + 1) _) (fun j e => by cases e; omega)).trans (KeepsFrom.of_grownBy (grownBy_setCell' _ (Z + 1 + 1) _) (fun j e => by cases e; omega))
  have H1 := Lib.hid h1
  cases hl : less t (F[0]'h1).t with
  | true =>
   have hx : Op.bytesLess t.toList (F[0]'h1).t.toList = true := hl
   have HX := Lib.hid hl
   have hx2 : Op.bytesLess (F[0]'h1).t.toList t.toList = false := less_asymm hl
   have hx3 : ((F[0]'h1).t.toList == t.toList) = false := Fr.str_diff fun e => by rw [e, less_irr] at hl; cases hl
   clear h h3 hl HSet HK
   gi_wp2
   exact ⟨KeepsFrom.refl _ _, .inr ⟨rfl, H1.out, HX.out, H.out⟩⟩
  | false =>
   have hx : Op.bytesLess t.toList (F[0]'h1).t.toList = false := hl
   have HX := Lib.hid hl
   have hx3 : ¬ (Op.bytesLess (F[0]'h1).t.toList t.toList = false /\ ((F[0]'h1).t.toList == t.toList) = false) := fun hh => by
    have := less_total (a := (F[0]'h1).t) (b := t) hh.1 hl
    rw [this] at hh
    simp at hh
   clear h h3 hl
   gi_wp2
   all_goals first
    | exact ⟨HK.out, .inl ⟨rfl, H1.out, HX.out, HSet.out⟩⟩
    | (rename_i hh; exact absurd (by simpa using hh) hx3)
 case stop =>
  rintro D c us V hD (⟨rfl, h1, h2, h⟩ | ⟨rfl, h1, h2, h⟩) hk
  ·have HE : Hid (res = getV (some F[0].v)) := by
    show _ = _
    rw [<- HRes.out]
    cases F with
    | nil => cases h1
    | cons x r =>
     show getV (if less t x.t = true then none else some x.v) = _
     rw [if_neg (by rw [show less t x.t = false from h2]; decide)]
     rfl
   have HL := Lib.hid h.below
   have HG3 := Lib.hid h
   clear h
   gi_wp2
   refine ⟨by simp, .inl ⟨_, _, rfl, run_takeDeferred hk, ?_⟩⟩
   obtain ⟨k1, k2⟩ := HG3.out.ends (o' := .deferred none) hk rfl
   exact ⟨_, results_two rfl _ _ rfl rfl k1 k2, by rw [HE.out]; rfl, HL.out.trans (belowK_b (w := w) (Nat.le_refl _) V D _ _ (by omega) hk rfl rfl)⟩
  ·have HE : Hid (res = getV none) := by
    show _ = _
    rw [<- HRes.out]
    cases F with
    | nil => cases h1
    | cons x r =>
     show getV (if less t x.t = true then none else some x.v) = _
     rw [if_pos (show less t x.t = true from h2)]
   have HL := Lib.hid (h.set (by omega) ⟨#[]⟩ false)
   have q1 := h.b1.cell
   have q2 := h.b2.cell
   have r1 := h.b1.frozen
   have q2' : (V.setCell ⟨Z + 1, 0, none⟩ (.string ⟨#[]⟩)).cell? ⟨Z + 1 + 1, 0, none⟩ = some (.bool false) := (h.b2.other (by omega) _).cell
   have r2' : (V.setCell ⟨Z + 1, 0, none⟩ (.string ⟨#[]⟩)).frozen? ⟨Z + 1 + 1, 0, none⟩ = false := (h.b2.other (by omega) _).frozen
   have hD1 : D ≠ Z + 1 := fun e => by have := h.b1; rw [<- e, Boxed, hk] at this; cases this
   have hD2 : D ≠ Z + 1 + 1 := fun e => by have := h.b2; rw [<- e, Boxed, hk] at this; cases this
   have hk2 : ((V.setCell ⟨Z + 1, 0, none⟩ (.string ⟨#[]⟩)).setCell ⟨Z + 1 + 1, 0, none⟩ (.bool false)).heap[D]? = some (.deferred (some [])) := by
    rw [Below.heap_setCell _ _ _ _ (by exact hD2), Below.heap_setCell _ _ _ _ (by exact hD1)]; exact hk
   clear h hk
   gi_wp2
   refine ⟨by simp, .inl ⟨_, _, rfl, run_takeDeferred hk2, ?_⟩⟩
   obtain ⟨k1, k2⟩ := HL.out.ends (o' := .deferred none) hk2 rfl
   exact ⟨_, results_two rfl _ _ rfl rfl k1 k2, by rw [HE.out]; rfl, HL.out.below.trans (belowK_b (w := w) (Nat.le_refl _) _ D _ _ (by omega) hk2 rfl rfl)⟩
 case done =>
  rintro D us V hD hus ⟨rfl, h⟩ hk
  have HE : Hid (res = getV none) := by
   show _ = _
   rw [<- HRes.out]
   cases F with
   | nil => rfl
   | cons x r => cases hus
  clear hus
  have HL := Lib.hid (h.set (by omega) ⟨#[]⟩ false)
  have q1 := h.b1.cell
  have q2 := h.b2.cell
  have r1 := h.b1.frozen
  have q2' : (V.setCell ⟨Z + 1, 0, none⟩ (.string ⟨#[]⟩)).cell? ⟨Z + 1 + 1, 0, none⟩ = some (.bool false) := (h.b2.other (by omega) _).cell
  have r2' : (V.setCell ⟨Z + 1, 0, none⟩ (.string ⟨#[]⟩)).frozen? ⟨Z + 1 + 1, 0, none⟩ = false := (h.b2.other (by omega) _).frozen
  have hD1 : D ≠ Z + 1 := fun e => by have := h.b1; rw [<- e, Boxed, hk] at this; cases this
  have hD2 : D ≠ Z + 1 + 1 := fun e => by have := h.b2; rw [<- e, Boxed, hk] at this; cases this
  have hk2 : ((V.setCell ⟨Z + 1, 0, none⟩ (.string ⟨#[]⟩)).setCell ⟨Z + 1 + 1, 0, none⟩ (.bool false)).heap[D]? = some (.deferred (some [])) := by
   rw [Below.heap_setCell _ _ _ _ (by exact hD2), Below.heap_setCell _ _ _ _ (by exact hD1)]; exact hk
  clear h hk
  gi_wp2
  refine ⟨by simp, .inl ⟨_, _, rfl, run_takeDeferred hk2, ?_⟩⟩
  obtain ⟨k1, k2⟩ := HL.out.ends (o' := .deferred none) hk2 rfl
  exact ⟨_, results_two rfl _ _ rfl rfl k1 k2, by rw [HE.out]; rfl, HL.out.below.trans (belowK_b (w := w) (Nat.le_refl _) _ D _ _ (by omega) hk2 rfl rfl)⟩
end Go.Proofs.Ytjfclpicoamfaaa.Di
/- The program's Pack. -/
set_option maxRecDepth 100000
namespace Go.Proofs.Ytjfclpicoamfaaa.Di
open Go.RowKit Go.Shelf
open Fr (varL textL bs BRow cellsB)
open Po (Later SeqUp KeptIn later_below kept_below)
attribute [local go_sem] Oper.semAt_some
theorem pdchunk_any (L : List En) (v : Value) (w0 w : World) (h : SlD w0 v L) (hb0 : Below w0.heap.size w0 w) (hn : L.length <= 100000000) : Calls Try.prog 23 #[v, .int .i64 16] w fun e w' =>
  (∃ gf lb, e = .returned (.func (.func gf) #[] lb) /\ (∀ args W, (callFunc gf args).run Try.prog W = .ok (.enter gf args) W) /\ SeqUp OkD PtsD Try.prog gf lb (EncC L) (KpC w0.heap.size) ((L.length + 15) / 16) w') /\ Below w.heap.size w w' := by
 obtain ⟨W1, hW1⟩ : ∃ W1, (w.alloc (.cells #[v] 22)).alloc (.cells #[.int .i64 16] 3) = W1 := ⟨_, rfl⟩
 have hb1 : Below w.heap.size w W1 := by rw [<- hW1]; exact ((Below.refl _ w).alloc (Nat.le_refl _) _).alloc (by simp) _
 have h1 : W1.heap[w.heap.size]? = some (.cells #[v] 22 (0, 0)) := by
  rw [<- hW1, ((Below.refl _ (w.alloc (.cells #[v] 22))).alloc (Nat.le_refl _) _).block _ (by simp)]
  exact heap_newD w _
 have h2 : W1.heap[w.heap.size + 1]? = some (.cells #[.int .i64 16] 3 (0, 0)) := by
  have := heap_newD (w.alloc (.cells #[v] 22)) (.cells #[.int .i64 16] 3)
  rwa [World.size_alloc, hW1] at this
 have HS := Lib.hid (pdchunk1_up L v w0 h hn w.heap.size (w.heap.size + 1) W1 (hb0.trans (hb1.mono hb0.size)) h1 h2)
 have HB := Lib.hid hb1
 have hn1 : W1.cell? ⟨w.heap.size + 1, 0, none⟩ = some (.int .i64 16) := cell_atD h2 0
 obtain ⟨ao, c, hv, _, _⟩ := h
 obtain ⟨n, hl⟩ : ∃ n, L.length = n := ⟨_, rfl⟩
 rw [hl] at HS hv ⊢
 have HW := Lib.hid hW1
 subst hv
 have hn2 : (w.alloc (.cells #[.slice ao n c] 22)).heap.size = w.heap.size + 1 := World.size_alloc ..
 have hn1' : ((w.alloc (.cells #[.slice ao n c] 22)).alloc (.cells #[.int .i64 16] 3)).cell? ⟨w.heap.size + 1, 0, none⟩ = some (.int .i64 16) := by rw [hW1]; exact hn1
 clear hl h1 h2 hb1 hn hW1 hn1
 go_enter Try.func23, Try.ntmps23
 go_wp2
 rw [HW.out]
 go_ret
 exact ⟨⟨_, _, rfl, enters_of Try.func33 (by kernel_rfl) rfl, HS.out⟩, HB.out⟩
theorem brow_cellsD {B : Nat} {w : World} {v : Value} {l : List UInt8} (h : BRow B w v l) {k : Nat} (hk : v.ownBlock = some k) : ∃ cs s, w.heap[k]? = some (.cells cs 5 s) := by
 rcases h.2 with ⟨rfl, _⟩ | ⟨g, cap, cur, rfl, hbg, hh, _⟩
 ·cases hk
 ·have : g = k := by injection hk
  subst this
  exact ⟨_, _, hh⟩
theorem brow_grownD {B : Nat} {w w' : World} {v : Value} {l : List UInt8} {row : Option Nat} (h : BRow B w v l) (hg : w.grownBy w' row) (hr : ∀ k, v.ownBlock = some k -> row ≠ some k) : BRow B w' v l := by
 refine ⟨h.1, ?_⟩
 rcases h.2 with hn | ⟨g, cap, cur, rfl, hbg, hh, rest⟩
 ·exact .inl hn
 ·exact .inr ⟨g, cap, cur, rfl, hbg, by rw [hg.block g (Array.getElem?_eq_some_iff.1 hh).1 (fun e => hr g rfl e.symm)]; exact hh, rest⟩
theorem brow_keep {B : Nat} {w w' : World} {v : Value} {l : List UInt8} (h : BRow B w v l) (hk : ∀ k cs s, v.ownBlock = some k -> w.heap[k]? = some (.cells cs 5 s) -> w'.heap[k]? = some (.cells cs 5 s)) : BRow B w' v l := by
 refine ⟨h.1, ?_⟩
 rcases h.2 with hn | ⟨g, cap, cur, rfl, hbg, hh, rest⟩
 ·exact .inl hn
 ·exact .inr ⟨g, cap, cur, rfl, hbg, hk g _ _ rfl hh, rest⟩
theorem head_grp : ∀ (M : List En) (h : 0 < (M.take 16).length), headT M = textL ((M.take 16)[0]'h).t.data.toList
 | [], h => by simp at h
 | x :: r, _ => rfl
theorem idxG_len {L : List En} (h : Sml L) : ∀ q, (idxG L q).length <= 60 * q
 | 0 => Nat.le_refl _
 | q + 1 => by
  have h1 := idxG_len h q
  have h2 := varL_le (blkL [] (grp L q)).length (blk_small _ (fun x hx => (h x (grp_sub x hx)).1) (by unfold grp; rw [List.length_take]; omega))
  have h3 : (headT (L.drop (16 * q))).length <= 50 := by
   cases hd : L.drop (16 * q) with
   | nil => exact Nat.zero_le _
   | cons x r =>
    have hx : x ∈ L := List.mem_of_mem_drop (by rw [hd]; exact List.mem_cons_self)
    have ho := (h x hx).1.2.1
    have := textL_len x.t.data.toList (by rw [str_len]; omega)
    rw [str_len] at this
    show (textL x.t.data.toList).length <= _
    omega
  rw [idxG, List.length_append, List.length_append]
  omega
theorem allG_len {L : List En} (h : Sml L) : ∀ q, (allG L q).length <= 16001600 * q
 | 0 => Nat.le_refl _
 | q + 1 => by
  have h1 := allG_len h q
  have h2 := blk_len [] (grp L q) (h.sub grp_sub)
  have h3 : (grp L q).length <= 16 := by unfold grp; rw [List.length_take]; omega
  rw [allG, List.length_append]
  omega
theorem cells_one {l : List UInt8} : ∀ u ∈ cellsB l, u.oneCell' = true := fun u hu => by
 unfold Fr.cellsB at hu
 obtain ⟨b, _, rfl⟩ := List.mem_map.1 hu
 rfl
noncomputable def appF (ts : Array TypeId) (t : TypeId) (vs : Array Value) : Sem Value := Builtin.append_ ts t vs
theorem app_fold (ts : Array TypeId) (t : TypeId) (vs : Array Value) : Builtin.append_ ts t vs = appF ts t vs := rfl
attribute [local go_sem ↓] app_fold
theorem blk_pos {p : List UInt8} : ∀ {L : List En}, L ≠ [] -> 0 < (blkL p L).length
 | [], h => absurd rfl h
 | x :: r, _ => by
  have : 0 < (varL (alike p x.t.data.toList)).length := by
   rcases Nat.eq_zero_or_pos (varL (alike p x.t.data.toList)).length with h | h
   ·have h1 := List.length_eq_zero_iff.1 h
    have h2 := Fr.rdV_varL 0 [] (by omega)
    have h3 : (varL (alike p x.t.data.toList)).length ≠ 0 := by
     have h4 := (alike_le p x.t.data.toList).2
     intro _
     by_cases hz : alike p x.t.data.toList < 18446744073709551616
     ·have h5 := Fr.rdV_varL (alike p x.t.data.toList) [] hz
      rw [h1] at h5
      cases h5
     ·rw [h1] at h
      unfold Fr.varL at h1
      split at h1 <;> simp at h1
    exact absurd h h3
   ·exact h
  rw [blkL, List.length_append]
  unfold entL
  rw [List.length_append]
  omega
theorem brow_ptr {B : Nat} {w : World} {v : Value} {l : List UInt8} (h : BRow B w v l) (hl : 0 < l.length) : ∃ g cap, v = .slice (some ⟨g, 0, none⟩) l.length cap /\ ∀ (j : Nat) (u : Value), (cellsB l)[j]? = some u -> w.cell? ((⟨g, 0, none⟩ : Addr).add j) = some u := by
 have hO := h
 rcases h.2 with ⟨_, h0⟩ | ⟨g, cap, cur, rfl, _⟩
 ·omega
 ·refine ⟨g, cap, rfl, fun j u hu => ?_⟩
  have hj : j < (cellsB l).length := (List.getElem?_eq_some_iff.1 hu).1
  rw [add_atD, Nat.zero_add, World.ownsRow.cellAt hO j (by rw [Fr.cellsB_length] at hj; omega)]
  exact hu
structure PW (w : World) (Z : Nat) (V0 : World) (vi0 vb0 : Value) (vs : Value) (ls : List UInt8) (li lb : List UInt8) (vi vb : Value) (V : World) : Prop where
 bi : Boxed V Z 38 vi
 bb : Boxed V (Z + 1) 38 vb
 ri : BRow w.heap.size V vi li
 rb : BRow w.heap.size V vb lb
 ap : ∀ k, vi.ownBlock = some k -> vb.ownBlock ≠ some k
 below : Below w.heap.size w V
 hi : w.heap.size <= Z
 oi : ∀ k, vi.ownBlock = some k -> vi0.ownBlock = some k \/ V0.heap.size <= k
 ob : ∀ k, vb.ownBlock = some k -> vb0.ownBlock = some k \/ V0.heap.size <= k
 rs : BRow V0.heap.size V vs ls
 sep : ∀ k, vs.ownBlock = some k -> vi.ownBlock ≠ some k /\ vb.ownBlock ≠ some k
 sz : V0.heap.size <= V.heap.size
 tc : ∀ q, q < V0.heap.size -> q ≠ Z -> q ≠ Z + 1 -> vi0.ownBlock ≠ some q -> vb0.ownBlock ≠ some q -> V.heap[q]? = V0.heap[q]?
theorem PW.begin {w : World} {Z : Nat} {V0 V : World} {vi0 vb0 vi vb vs : Value} {li lb ls : List UInt8} (h : PW w Z V0 vi0 vb0 vs ls li lb vi vb V) : PW w Z V vi vb (.slice none 0 0) [] li lb vi vb V :=
 ⟨h.bi, h.bb, h.ri, h.rb, h.ap, h.below, h.hi, fun _ h => .inl h, fun _ h => .inl h, BRow.nil _ _, fun k hk => (by cases hk), Nat.le_refl _, fun _ _ _ _ _ _ => rfl⟩
theorem PW.take {w : World} {Z : Nat} {V0 V : World} {vi0 vb0 vi vb vs vs' : Value} {li lb ls ls' : List UInt8} (h : PW w Z V0 vi0 vb0 vs ls li lb vi vb V) (hr : BRow V0.heap.size V vs' ls') (h1 : ∀ k, vs'.ownBlock = some k -> vi.ownBlock ≠ some k /\ vb.ownBlock ≠ some k) : PW w Z V0 vi0 vb0 vs' ls' li lb vi vb V :=
 ⟨h.bi, h.bb, h.ri, h.rb, h.ap, h.below, h.hi, h.oi, h.ob, hr, h1, h.sz, h.tc⟩
theorem PW.on {w : World} {Z : Nat} {V0 V V1 : World} {vi0 vb0 vi vb vs : Value} {li lb ls : List UInt8} (h : PW w Z V0 vi0 vb0 vs ls li lb vi vb V) (hb : Below V.heap.size V V1) : PW w Z V0 vi0 vb0 vs ls li lb vi vb V1 :=
 ⟨keepD h.bi hb, keepD h.bb hb, brow_belowD h.ri hb, brow_belowD h.rb hb, h.ap, h.below.trans (hb.mono h.below.size), h.hi, h.oi, h.ob, brow_belowD h.rs hb, h.sep, Nat.le_trans h.sz hb.size, fun q h1 h2 h3 h4 h5 => (hb.block q (Nat.lt_of_lt_of_le h1 h.sz)).trans (h.tc q h1 h2 h3 h4 h5)⟩
theorem PW.later {w : World} {Z : Nat} {V0 V V' : World} {vi0 vb0 vi vb vs : Value} {li lb ls : List UInt8} {us : List Value} {B : Nat} (h : PW w Z V0 vi0 vb0 vs ls li lb vi vb V) (hB : w.heap.size <= B) (hl : Later OkD PtsD B us V V') : PW w Z V' vi vb (.slice none 0 0) [] li lb vi vb V' := by
 have kb : ∀ {k : Nat} {cs : Array Value} {t : TypeId} {p : Nat × Nat}, V.heap[k]? = some (.cells cs t p) -> V'.heap[k]? = some (.cells cs t p) := fun {k cs t p} hk => by
  rcases hl.block k (Array.getElem?_eq_some_iff.1 hk).1 with e | ⟨_, o, ho, ho2⟩
  ·exact e.trans hk
  ·rw [hk] at ho
   cases ho
   rcases ho2 with ho2 | ⟨ho2, _⟩
   ·cases ho2
   ·exact ho2.elim
 refine ⟨kb h.bi, kb h.bb, brow_keep h.ri fun _ _ _ _ hk => kb hk, brow_keep h.rb fun _ _ _ _ hk => kb hk, h.ap, ⟨hl.os.trans h.below.os, hl.tape.trans h.below.tape, hl.output.trans h.below.output, Nat.le_trans h.below.size hl.size, fun k hk => ?_⟩, h.hi, fun _ h => .inl h, fun _ h => .inl h, BRow.nil _ _, fun k hk => (by cases hk), Nat.le_refl _, fun _ _ _ _ _ _ => rfl⟩
 have hk' := h.below.size
 rcases hl.block k (by omega) with e | ⟨e, _⟩
 ·rw [e, h.below.block k hk]
 ·omega
theorem boxed_not_row {B : Nat} {w : World} {v u : Value} {l : List UInt8} {Z : Nat} (hb : Boxed w Z 38 u) (h : BRow B w v l) : v.ownBlock ≠ some Z := fun e => by
 obtain ⟨cs, s, hc⟩ := brow_cellsD h e
 rw [Boxed, hc] at hb
 injection hb with hb
 injection hb with _ hb _
 exact absurd hb (by decide)
theorem PW.app1 {w : World} {Z : Nat} {V0 V w1 : World} {vi0 vb0 vi vb v' vs : Value} {li lb l' ls : List UInt8} (h : PW w Z V0 vi0 vb0 vs ls li lb vi vb V) (hr : BRow w.heap.size w1 v' l') (hg : V.grownBy w1 vi.ownBlock) (hf : ∀ k, v'.ownBlock = some k -> vi.ownBlock = some k \/ V.heap.size <= k) :
  w1.cell? ⟨Z, 0, none⟩ = some vi /\ w1.frozen? ⟨Z, 0, none⟩ = false /\ PW w Z V0 vi0 vb0 vs ls l' lb v' vb (w1.setCell ⟨Z, 0, none⟩ v') := by
 have hzr : vi.ownBlock ≠ some Z := boxed_not_row h.bi h.ri
 have hzr2 : vi.ownBlock ≠ some (Z + 1) := boxed_not_row h.bb h.ri
 have b1 : Boxed w1 Z 38 vi := h.bi.kept hg (fun e => hzr e.symm)
 have b2 : Boxed w1 (Z + 1) 38 vb := h.bb.kept hg (fun e => hzr2 e.symm)
 have hzv : v'.ownBlock ≠ some Z := boxed_not_row b1 hr
 have rb1 : BRow w.heap.size w1 vb lb := brow_grownD h.rb hg fun k hk e => h.ap k e hk
 have hzb : vb.ownBlock ≠ some Z := boxed_not_row b1 rb1
 have rs1 : BRow V0.heap.size w1 vs ls := brow_grownD h.rs hg fun k hk e => (h.sep k hk).1 e
 have hzs : vs.ownBlock ≠ some Z := boxed_not_row b1 rs1
 have gs := grownBy_setCell' w1 Z v'
 refine ⟨b1.cell, b1.frozen, b1.set v', b2.other (by omega) _, brow_grownD hr gs (fun k hk e => by cases e; exact hzv hk), brow_grownD rb1 gs (fun k hk e => by cases e; exact hzb hk), fun k hk hb => ?_, ?_, h.hi, fun k hk => ?_, h.ob, brow_grownD rs1 gs (fun k hk e => by cases e; exact hzs hk), fun k hk => ⟨fun hv => ?_, (h.sep k hk).2⟩, ?_, fun q h1 h2 h3 h4 h5 => ?_⟩
 ·rcases hf k hk with e | e
  ·exact h.ap k e hb
  ·have := (brow_ltD h.rb hb).2; omega
 ·exact (h.below.grown hg h.below.size fun k hk => (brow_ltD h.ri hk).1).setCell (p := ⟨Z, 0, none⟩) h.hi _
 ·rcases hf k hk with e | e
  ·exact h.oi k e
  ·exact .inr (Nat.le_trans h.sz e)
 ·rcases hf k hv with e | e
  ·exact (h.sep k hk).1 e
  ·have := (brow_ltD h.rs hk).2; omega
 ·exact Nat.le_trans h.sz (Nat.le_trans hg.size gs.size)
 ·have hq : q < V.heap.size := Nat.lt_of_lt_of_le h1 h.sz
  rw [gs.block q (Nat.lt_of_lt_of_le hq hg.size) (fun e => by cases e; exact h2 rfl), hg.block q hq (fun e => ?_)]
  ·exact h.tc q h1 h2 h3 h4 h5
  ·rcases h.oi q e.symm with e | e
   ·exact h4 e
   ·omega
theorem PW.app2 {w : World} {Z : Nat} {V0 V w1 : World} {vi0 vb0 vi vb v' vs : Value} {li lb l' ls : List UInt8} (h : PW w Z V0 vi0 vb0 vs ls li lb vi vb V) (hr : BRow w.heap.size w1 v' l') (hg : V.grownBy w1 vb.ownBlock) (hf : ∀ k, v'.ownBlock = some k -> vb.ownBlock = some k \/ V.heap.size <= k) :
  w1.cell? ⟨Z + 1, 0, none⟩ = some vb /\ w1.frozen? ⟨Z + 1, 0, none⟩ = false /\ PW w Z V0 vi0 vb0 vs ls li l' vi v' (w1.setCell ⟨Z + 1, 0, none⟩ v') := by
 have hzr : vb.ownBlock ≠ some Z := boxed_not_row h.bi h.rb
 have hzr2 : vb.ownBlock ≠ some (Z + 1) := boxed_not_row h.bb h.rb
 have b1 : Boxed w1 Z 38 vi := h.bi.kept hg (fun e => hzr e.symm)
 have b2 : Boxed w1 (Z + 1) 38 vb := h.bb.kept hg (fun e => hzr2 e.symm)
 have hzv : v'.ownBlock ≠ some (Z + 1) := boxed_not_row b2 hr
 have ri1 : BRow w.heap.size w1 vi li := brow_grownD h.ri hg fun k hk e => h.ap k hk e
 have hzb : vi.ownBlock ≠ some (Z + 1) := boxed_not_row b2 ri1
 have rs1 : BRow V0.heap.size w1 vs ls := brow_grownD h.rs hg fun k hk e => (h.sep k hk).2 e
 have hzs : vs.ownBlock ≠ some (Z + 1) := boxed_not_row b2 rs1
 have gs := grownBy_setCell' w1 (Z + 1) v'
 refine ⟨b2.cell, b2.frozen, b1.other (by omega) _, b2.set v', brow_grownD ri1 gs (fun k hk e => by cases e; exact hzb hk), brow_grownD hr gs (fun k hk e => by cases e; exact hzv hk), fun k hk hb => ?_, ?_, h.hi, h.oi, fun k hk => ?_, brow_grownD rs1 gs (fun k hk e => by cases e; exact hzs hk), fun k hk => ⟨(h.sep k hk).1, fun hv => ?_⟩, ?_, fun q h1 h2 h3 h4 h5 => ?_⟩
 ·rcases hf k hb with e | e
  ·exact h.ap k hk e
  ·have := (brow_ltD h.ri hk).2; omega
 ·exact (h.below.grown hg h.below.size fun k hk => (brow_ltD h.rb hk).1).setCell (p := ⟨Z + 1, 0, none⟩) (by have := h.hi; show _ <= Z + 1; omega) _
 ·rcases hf k hk with e | e
  ·exact h.ob k e
  ·exact .inr (Nat.le_trans h.sz e)
 ·rcases hf k hv with e | e
  ·exact (h.sep k hk).2 e
  ·have := (brow_ltD h.rs hk).2; omega
 ·exact Nat.le_trans h.sz (Nat.le_trans hg.size gs.size)
 ·have hq : q < V.heap.size := Nat.lt_of_lt_of_le h1 h.sz
  rw [gs.block q (Nat.lt_of_lt_of_le hq hg.size) (fun e => by cases e; exact h3 rfl), hg.block q hq (fun e => ?_)]
  ·exact h.tc q h1 h2 h3 h4 h5
  ·rcases h.ob q e.symm with e | e
   ·exact h5 e
   ·omega
theorem PW.ends {w : World} {Z : Nat} {V0 V : World} {vi0 vb0 vi vb vs vs0 : Value} {li lb li0 lb0 ls ls0 : List UInt8} {A N : Nat} (h0 : PW w Z V0 vi0 vb0 vs0 ls0 li0 lb0 vi0 vb0 V0) (h : PW w Z V0 vi0 vb0 vs ls li lb vi vb V) (hz : Z + 1 < N)
  (hi : ∀ q, vi0.ownBlock = some q -> q < N) (hb : ∀ q, vb0.ownBlock = some q -> q < N) : KeepsFrom A V0 V /\ KpC w.heap.size V0 V /\ KeptIn N V0 V := by
 refine ⟨⟨h.sz, fun k o _ hk ho => ?_⟩, ⟨⟨h.sz, fun k cs t s ht hk => ?_⟩, fun q h1 h2 => ?_⟩, fun q h1 h2 => ?_⟩
 ·refine (h.tc k (ltD hk) ?_ ?_ ?_ ?_).trans hk
  ·rintro rfl; have := h0.bi; rw [Boxed, hk] at this; cases this; cases ho
  ·rintro rfl; have := h0.bb; rw [Boxed, hk] at this; cases this; cases ho
  ·intro e; obtain ⟨cs, s, hc⟩ := brow_cellsD h0.ri e; rw [hk] at hc; cases hc; cases ho
  ·intro e; obtain ⟨cs, s, hc⟩ := brow_cellsD h0.rb e; rw [hk] at hc; cases hc; cases ho
 ·have hnt : t ≠ 38 /\ t ≠ 5 := by
   simp only [List.mem_cons, List.not_mem_nil, or_false] at ht
   rcases ht with rfl | rfl <;> exact ⟨by decide, by decide⟩
  refine (h.tc k (ltD hk) ?_ ?_ ?_ ?_).trans hk
  ·rintro rfl; have := h0.bi; rw [Boxed, hk] at this; injection this with this; injection this with _ this _; exact hnt.1 this
  ·rintro rfl; have := h0.bb; rw [Boxed, hk] at this; injection this with this; injection this with _ this _; exact hnt.1 this
  ·intro e; obtain ⟨cs, s, hc⟩ := brow_cellsD h0.ri e; rw [hk] at hc; injection hc with hc; injection hc with _ hc _; exact hnt.2 hc
  ·intro e; obtain ⟨cs, s, hc⟩ := brow_cellsD h0.rb e; rw [hk] at hc; injection hc with hc; injection hc with _ hc _; exact hnt.2 hc
 ·have hh := h0.hi
  exact h.tc q h2 (by omega) (by omega) (fun e => by have := (brow_ltD h0.ri e).1; omega) (fun e => by have := (brow_ltD h0.rb e).1; omega)
 ·exact h.tc q h2 (by omega) (by omega) (fun e => by have := hi q e; omega) (fun e => by have := hb q e; omega)
set_option maxHeartbeats 8000000 in
theorem pdpack_all (L : List En) (v : Value) (w : World) (h : SlD w v L) (hn : L.length <= 1048576) (hz : ∀ x ∈ L, x.t.size <= maxLen /\ x.v.size <= 1000000) :
  Calls Try.prog 11 #[v] w fun e w' => e = .returned (if RightD L then .tuple #[.string (bs (bytesD L)), .int .i64 0] else .tuple #[.string ⟨#[]⟩, .int .i64 1]) /\ Below w.heap.size w w' := by
 have CR := Lib.hid (pdright_all L v w h (by unfold maxLen; omega) (fun x hx => ⟨(hz x hx).1, by have := (hz x hx).2; unfold maxLen; omega⟩))
 by_cases hR : RightD L
 ·rw [decide_eq_true hR] at CR
  have CC := Lib.hid (fun W (hW : Below w.heap.size w W) => pdchunk_any L v w W h hW (by omega))
  obtain ⟨res, hres⟩ : ∃ res, (if RightD L then Value.tuple #[.string (bs (bytesD L)), .int .i64 0] else .tuple #[.string ⟨#[]⟩, .int .i64 1]) = res := ⟨_, rfl⟩
  have HRes : Hid (res = .tuple #[.string (bs (bytesD L)), .int .i64 0]) := by show _ = _; rw [<- hres, if_pos hR]
  rw [hres]
  have HSml : Hid (Sml L) := fun x hx => ⟨hR.2.1 x hx, (hz x hx).2⟩
  have HL := Lib.hid hn
  obtain ⟨ao, c, rfl, _, _⟩ := h
  clear hres hz
  refine (callsIn_wide (n := 9)).1 ?_
  refine callsIn_of_wp_marks Try.func11 rfl trivial ?_ rfl
  simp only [Try.ntmps11, List.size_toArray, List.length_cons, List.length_nil, Nat.reduceAdd, Nat.reduceSub, Array.replicate_succ, Array.replicate_zero, List.push_toArray, List.append_toArray, List.nil_append, List.cons_append]
  gi_wp2
  refine ⟨trivial, ?_⟩
  gi_at_call 13
  refine (callsIn_wide.2 CR.out).mono ?_
  rintro e w1 ⟨rfl, hb1⟩
  have HB1 := Lib.hid hb1
  clear hb1
  obtain ⟨Z, hZ⟩ : ∃ Z, w1.heap.size = Z := ⟨_, rfl⟩
  obtain ⟨W2, hW2⟩ : ∃ W2, (w1.alloc (.cells #[.slice none 0 0] 38)).alloc (.cells #[.slice none 0 0] 38) = W2 := ⟨_, rfl⟩
  have b0 : Boxed W2 Z 38 (.slice none 0 0) := by rw [<- hW2, <- hZ]; exact (Boxed.new w1 _ _).alloc _
  have b1 : Boxed W2 (Z + 1) 38 (.slice none 0 0) := by rw [<- hW2, <- hZ]; have := Boxed.new (w1.alloc (.cells #[.slice none 0 0] 38)) 38 (.slice none 0 0); simpa using this
  have hb2 : Below w1.heap.size w1 W2 := by rw [<- hW2]; exact ((Below.refl _ w1).alloc (Nat.le_refl _) _).alloc (by simp) _
  have HB2 : Hid (Below w.heap.size w W2) := HB1.out.trans (hb2.mono HB1.out.size)
  have hwz : w.heap.size <= Z := by rw [<- hZ]; exact HB1.out.size
  have HP0 : Hid (PW w Z W2 (.slice none 0 0) (.slice none 0 0) (.slice none 0 0) [] (idxG L 0) (allG L 0) (.slice none 0 0) (.slice none 0 0) W2) :=
   ⟨b0, b1, BRow.nil _ _, BRow.nil _ _, (fun k hk => by cases hk), HB2.out, hwz, fun _ h => .inl h, fun _ h => .inl h, BRow.nil _ _, fun k hk => (by cases hk), Nat.le_refl _, fun _ _ _ _ _ _ => rfl⟩
  have hs2 : W2.heap.size = Z + 2 := by rw [<- hW2, <- hZ]; simp
  have HS2 := Lib.hid hs2
  have HW2 := Lib.hid hW2
  have CC2 := Lib.hid (CC.out W2 HB2.out)
  obtain ⟨n, hl⟩ : ∃ n, L.length = n := ⟨_, rfl⟩
  have HN := Lib.hid hl
  rw [hl] at CC2 hn HL ⊢
  clear hb2 hW2 b0 b1 hs2 CC hl
  gi_wp2
  rw [HW2.out]
  refine ⟨trivial, ?_⟩
  gi_at_call 23
  refine (callsIn_wide.2 CC2.out).mono ?_
  rintro e w3 ⟨⟨gf, lb, rfl, heg, hsq⟩, hb3⟩
  have HSq := Lib.hid hsq
  have HEg := Lib.hid heg
  have HP3 : Hid (PW w Z w3 (.slice none 0 0) (.slice none 0 0) (.slice none 0 0) [] (idxG L 0) (allG L 0) (.slice none 0 0) (.slice none 0 0) w3) := (HP0.out.on hb3).begin
  have hs3 : Z + 2 <= w3.heap.size := by rw [<- HS2.out]; exact hb3.size
  clear hsq heg hb3 CC2 HP0
  gi_wp2
  refine Po.range_up rfl HEg.out HSq.out kpc_t (kpc_b (by omega)) (Below.refl _ _) rfl
   (fun us V => ∃ vi vb, PW w Z V vi vb (.slice none 0 0) [] (idxG L us.length) (allG L us.length) vi vb V)
   (fun _ _ _ => False) ?abI ?abX ⟨_, _, HP3.out⟩
   (fun N us u a' V => 16 * us.length < L.length /\ SlD V u (grp L us.length) /\ Z + 1 < N /\ (∀ vi, Boxed V Z 38 vi -> ∀ q, vi.ownBlock = some q -> q < N) /\ (∀ vb, Boxed V (Z + 1) 38 vb -> ∀ q, vb.ownBlock = some q -> q < N) /\
    a' = { tmps := #[.slice ao n c, undef, .string ⟨#[]⟩, .int .i64 0, .pointer (some ⟨Z, 0, none⟩), .pointer (some ⟨Z + 1, 0, none⟩), u, undef, .slice ao n c, .bool true, .bool false, .slice ao n c, .func (.func gf) #[] lb, u, undef, undef, undef, undef, undef, undef, undef, undef, undef, undef, undef, undef, undef, undef, undef, undef, undef, undef, undef, undef, undef, undef, undef, undef, undef, undef, undef, undef, undef, undef, undef], defers := [] })
   ?axp ?assign ?body ?done ?stop
  case abI =>
   rintro us X Y ⟨vi, vb, h⟩ hl
   exact ⟨vi, vb, h.later (by omega) hl⟩
  case abX => exact fun _ _ _ _ h _ => h
  case axp =>
   rintro N us u a' V l' o o' hl ho hc ⟨h1, h2, h4, h5, h6, h7⟩
   have kb : ∀ {k : Nat} {cs : Array Value} {t : TypeId} {p : Nat × Nat}, k < V.heap.size -> k < w3.heap.size -> (V.putObj l' o').heap[k]? = some (.cells cs t p) -> V.heap[k]? = some (.cells cs t p) := fun {k cs t p} hlt hkw hk => ((grownBy_putObj' V l' o').block k hlt (fun e => by cases e; omega)).symm.trans hk
   have hlV : l' < V.heap.size := (Array.getElem?_eq_some_iff.1 ho).1
   exact ⟨h1, h2.put ho hc, h4, fun vi hv => h5 vi (kb (by omega) (by omega) hv), fun vb hv => h6 vb (kb (by omega) (by omega) hv), h7⟩
  case assign =>
   rintro l' us u W0 V R hk ⟨vi0, vb0, h0⟩ hbe hw0 ⟨vi, vb, h⟩ ⟨h1, h2⟩ hR
   have e1 : ∀ {x y : Value} {q : Nat}, Boxed W0 q 38 x -> Boxed V q 38 y -> y = x := fun {x y q} hx hy => by
    have e4 : V.heap[q]? = some (.cells #[x] 38 (0, 0)) := keepD hx hbe
    have e3 : V.heap[q]? = some (.cells #[y] 38 (0, 0)) := hy
    rw [e3] at e4
    injection e4 with e4
    injection e4 with e4 _ _
    simpa using e4
   have hR2 := hR { tmps := #[.slice ao n c, undef, .string ⟨#[]⟩, .int .i64 0, .pointer (some ⟨Z, 0, none⟩), .pointer (some ⟨Z + 1, 0, none⟩), u, undef, .slice ao n c, .bool true, .bool false, .slice ao n c, .func (.func gf) #[] lb, u, undef, undef, undef, undef, undef, undef, undef, undef, undef, undef, undef, undef, undef, undef, undef, undef, undef, undef, undef, undef, undef, undef, undef, undef, undef, undef, undef, undef, undef, undef, undef], defers := [] } V (KeepsFrom.refl _ _) (kpc_below (Below.refl _ _)) (kept_below (Below.refl _ _)) ⟨vi, vb, h⟩
    ⟨h1, h2, by omega, fun x hx q hq => by rw [e1 h0.bi hx] at hq; exact (brow_ltD h0.ri hq).2, fun x hx q hq => by rw [e1 h0.bb hx] at hq; exact (brow_ltD h0.rb hq).2, rfl⟩
   clear hR
   gi_wp2
   exact hR2
  case body =>
   rintro l' N us u a' V hk ⟨vi, vb, h⟩ ⟨h1, h2, h4, h5, h6, rfl⟩
   obtain ⟨io, ic, hvi⟩ := brow_sliceD h.ri
   obtain ⟨bo, bc, hvb⟩ := brow_sliceD h.rb
   obtain ⟨il, hil0⟩ : ∃ il, (idxG L us.length).length = il := ⟨_, rfl⟩
   obtain ⟨al, hal0⟩ : ∃ al, (allG L us.length).length = al := ⟨_, rfl⟩
   rw [hil0] at hvi
   rw [hal0] at hvb
   subst hvi
   subst hvb
   have hNi := h5 _ h.bi
   have hNb := h6 _ h.bb
   clear h5 h6
   obtain ⟨k, hkk⟩ : ∃ k, us.length = k := ⟨_, rfl⟩
   rw [hkk] at h h1 h2 hil0 hal0
   have HK := Lib.hid hkk
   have CP := Lib.hid (pdpacked_any (grp L k) u V h2 (by unfold grp; rw [List.length_take]; omega) (HSml.out.sub grp_sub))
   have H0 := Lib.hid h
   gi_wp2
   refine ⟨trivial, ?_⟩
   gi_at_call 24
   refine (callsIn_wide.2 CP.out).mono ?_
   rintro e V1 ⟨⟨sv, rfl, hsv⟩, hb1⟩
   have HP1 := Lib.hid ((H0.out.begin.on hb1).take hsv (fun k hk => ⟨fun e => by have h1 := (brow_ltD hsv hk).1; have h2 := (brow_ltD H0.out.ri e).2; omega, fun e => by have h1 := (brow_ltD hsv hk).1; have h2 := (brow_ltD H0.out.rb e).2; omega⟩))
   have HSv := Lib.hid hsv
   have HU1 := Lib.hid (h2.below hb1)
   obtain ⟨so, sc, hsve⟩ := brow_sliceD hsv
   obtain ⟨bl, hbl⟩ : ∃ bl, (blkL [] (grp L k)).length = bl := ⟨_, rfl⟩
   rw [hbl] at hsve
   subst hsve
   have HBl := Lib.hid hbl
   have hgl : (grp L k).length ≠ 0 := by unfold grp; rw [List.length_take, List.length_drop]; omega
   obtain ⟨uo, uc, huv, huc, hcells⟩ := HU1.out
   obtain ⟨gm, hgm⟩ : ∃ gm, (grp L k).length = gm := ⟨_, rfl⟩
   obtain ⟨ug, uoff, huo, hug, hu1, hu2⟩ := hcells 0 (by omega)
   rw [hgm] at huv huc
   subst huv
   subst huo
   rw [Nat.zero_mul, Nat.add_zero] at hu1
   have hT0 : headT (L.drop (16 * k)) = textL ((grp L k)[0]'(by omega)).t.data.toList := by
    unfold grp
    exact head_grp _ _
   have hbpos : 0 < bl := by rw [<- hbl]; exact blk_pos (fun e => hgl (by rw [e]; rfl))
   have hxm : (grp L k)[0]'(by omega) ∈ L := grp_sub _ (List.getElem_mem _)
   have hxo := HSml.out _ hxm
   obtain ⟨xt, hxt⟩ : ∃ xt, ((grp L k)[0]'(by omega)).t = xt := ⟨_, rfl⟩
   have hx40 : xt.size <= 1000000 := by rw [<- hxt]; have := hxo.1.2.1; omega
   rw [hxt] at hu1 hT0
   have CT := Lib.hid (fun W g (hg : W.heap.size = g) => ptext_oneD xt hx40 W g hg)
   have hblz : bl < 1000000000 := by rw [<- hbl]; have := blk_len [] (grp L k) (HSml.out.sub grp_sub); have : (grp L k).length <= 16 := by unfold grp; rw [List.length_take]; omega
                                     omega
   have CV := Lib.hid (fun W g (hg : W.heap.size = g) => pvar_oneD bl (by omega) W g hg)
   have c0 := HP1.out.bi.cell
   have gm0 : (0 : Int) < (gm : Int) := by omega
   clear hb1 hsv h h2 hcells hu2 hgl hxo hxm hxt hbl HU1
   gi_wp2
   obtain ⟨G1, hG1⟩ : ∃ G1, V1.heap.size = G1 := ⟨_, rfl⟩
   have CT2 := Lib.hid (show Calls Try.prog 25 #[.slice (some ⟨G1, 0, none⟩) 1 1] (V1.alloc (.cells #[.string xt] 9)).drew (fun e w' => e = .returned (.string (bs (textL xt.data.toList))) /\ Below V1.drew.heap.size V1.drew w') from CT.out V1.drew G1 hG1)
   have hTs : (bs (textL xt.data.toList)).size <= 1000010 := by rw [Fr.bs_size]; have := textL_len xt.data.toList (by rw [str_len]; omega); rw [str_len] at this; omega
   have HTl : Hid ((bs (textL xt.data.toList)).data.toList = textL xt.data.toList) := bs_list _
   generalize bs (textL xt.data.toList) = T at *
   have hil := idxG_len HSml.out k
   have hkz : k <= 65536 := by omega
   have c0a : (V1.alloc (.cells #[.string xt] 9)).cell? ⟨Z, 0, none⟩ = some (.slice io il ic) := (((Below.refl _ V1).alloc (Nat.le_refl _) _).cell (p := ⟨Z, 0, none⟩) HP1.out.bi.lt).trans c0
   have hmm : Try.prog.follows Departure.mixedOrders = true := by kernel_rfl
   have e5 : (idxG L k ++ T.data.toList).length = il + T.size := by rw [List.length_append, str_len, hil0]
   refine wpIn_mono (Q := fun e a' W => Hid (e = Exit.normal /\ ∃ o5 c5, a' = { tmps := #[.slice ao n c, undef, .string ⟨#[]⟩, .int .i64 0, .pointer (some ⟨Z, 0, none⟩), .pointer (some ⟨Z + 1, 0, none⟩), .slice (some ⟨ug, uoff, none⟩) gm uc, .slice so bl sc, .slice ao n c, .bool true, .bool false, .slice ao n c, .func (.func gf) #[] lb, .slice (some ⟨ug, uoff, none⟩) gm uc, .slice (some ⟨ug, uoff, none⟩) gm uc, .slice so bl sc, .slice io il ic, .slice (some ⟨ug, uoff, none⟩) gm uc, .pointer (some ⟨ug, uoff, none⟩), .pointer (some ⟨ug, uoff, none⟩), .string xt, .slice (some ⟨G1, 0, none⟩) 1 1, .string T, .slice o5 (il + T.size) c5, undef, undef, undef, undef, undef, undef, undef, undef, undef, undef, undef, undef, undef, undef, undef, undef, undef, undef, undef, undef, undef], defers := [] } /\ Hid (PW w Z V (.slice io il ic) (.slice bo al bc) (.slice so bl sc) (blkL [] (grp L k)) (idxG L k ++ T.data.toList) (allG L k) (.slice o5 (il + T.size) c5) (.slice bo al bc) W))) ?r1 ?_
   case r1 =>
    gi_region_with_o (first
     | (refine ⟨trivial, ?_⟩; gi_at_call 25; refine (CallsIn.inRound l' (callsIn_wide.2 CT2.out)).mono ?_; rintro e w4 ⟨rfl, hb4⟩
        have HP4 := Lib.hid (HP1.out.on (Fr.below_predrew hb4))
        obtain ⟨v5, w5, hA, hr5, hg5, hf5⟩ := brow_appD HP4.out.ri HP4.out.below.size T (by omega)
        obtain ⟨o5, c5, hv5⟩ := brow_sliceD hr5
        rw [e5] at hv5
        subst hv5
        obtain ⟨d1, d2, hp5⟩ := HP4.out.app1 hr5 hg5 hf5
        have HP5 := Lib.hid hp5
        have HA : (appF #[38, 9] 38 #[.slice io il ic, .string T]).run Try.prog w4 = .ok (.slice o5 (il + T.size) c5) w5 := hA
        have c4 := HP4.out.bi.cell
        clear hb4 hr5 hg5 hf5 hp5 hA))
    all_goals exact ⟨rfl, o5, c5, rfl, HP5.out⟩
   rintro e a' W5 ⟨rfl, o5, c5, rfl, HP5⟩
   clear c0 c0a CT2 HP1 hug hu1 CT
   obtain ⟨G2, hG2⟩ : ∃ G2, W5.heap.size = G2 := ⟨_, rfl⟩
   have CV2 := Lib.hid (show Calls Try.prog 26 #[.slice (some ⟨G2, 0, none⟩) 1 1] (W5.alloc (.cells #[.int .u64 (bl : Int)] 59)).drew (fun e w' => e = .returned (.string (bs (varL bl))) /\ Below W5.drew.heap.size W5.drew w') from CV.out W5.drew G2 hG2)
   have hNs : (bs (varL bl)).size <= 10 := by rw [Fr.bs_size]; exact varL_le _ (by omega)
   have HNl : Hid ((bs (varL bl)).data.toList = varL bl) := bs_list _
   generalize bs (varL bl) = N2 at *
   obtain ⟨j2, hj2⟩ : ∃ j2, il + T.size = j2 := ⟨_, rfl⟩
   obtain ⟨I2, hI2⟩ : ∃ I2, idxG L k ++ T.data.toList = I2 := ⟨_, rfl⟩
   have HI2 := Lib.hid hI2
   have hJ : I2.length = j2 := by rw [<- hI2, e5, hj2]
   rw [hI2, hj2] at HP5
   have hj2z : j2 <= 6000000 := by omega
   have c5a := HP5.out.bi.cell
   have c5b : (W5.alloc (.cells #[.int .u64 (bl : Int)] 59)).cell? ⟨Z, 0, none⟩ = some (.slice o5 j2 c5) := (((Below.refl _ W5).alloc (Nat.le_refl _) _).cell (p := ⟨Z, 0, none⟩) HP5.out.bi.lt).trans c5a
   have hwb : IntKind.u64.wrap (bl : Int) = (bl : Int) := by rw [IntKind.wrap_u64]; omega
   have e7 : (I2 ++ N2.data.toList).length = j2 + N2.size := by rw [List.length_append, str_len, hJ]
   clear e5 hI2
   gi_wp2
   rw [hj2]
   refine wpIn_mono (Q := fun e a' W => Hid (e = Exit.normal /\ ∃ o7 c7, a' = { tmps := #[.slice ao n c, undef, .string ⟨#[]⟩, .int .i64 0, .pointer (some ⟨Z, 0, none⟩), .pointer (some ⟨Z + 1, 0, none⟩), .slice (some ⟨ug, uoff, none⟩) gm uc, .slice so bl sc, .slice ao n c, .bool true, .bool false, .slice ao n c, .func (.func gf) #[] lb, .slice (some ⟨ug, uoff, none⟩) gm uc, .slice (some ⟨ug, uoff, none⟩) gm uc, .slice so bl sc, .slice io il ic, .slice (some ⟨ug, uoff, none⟩) gm uc, .pointer (some ⟨ug, uoff, none⟩), .pointer (some ⟨ug, uoff, none⟩), .string xt, .slice (some ⟨G1, 0, none⟩) 1 1, .string T, .slice o5 j2 c5, .slice o5 j2 c5, .slice so bl sc, .int .i64 (bl : Int), .int .u64 (bl : Int), .slice (some ⟨G2, 0, none⟩) 1 1, .string N2, .slice o7 (j2 + N2.size) c7, undef, undef, undef, undef, undef, undef, undef, undef, undef, undef, undef, undef, undef, undef], defers := [] } /\ Hid (PW w Z V (.slice io il ic) (.slice bo al bc) (.slice so bl sc) (blkL [] (grp L k)) (I2 ++ N2.data.toList) (allG L k) (.slice o7 (j2 + N2.size) c7) (.slice bo al bc) W))) ?r2 ?_
   case r2 =>
    gi_region_with_o (first
     | (refine ⟨trivial, ?_⟩; gi_at_call 26; refine (CallsIn.inRound l' (callsIn_wide.2 CV2.out)).mono ?_; rintro e w6 ⟨rfl, hb6⟩
        have HP6 := Lib.hid (HP5.out.on (Fr.below_predrew hb6))
        obtain ⟨v7, w7, hA, hr7, hg7, hf7⟩ := brow_appD HP6.out.ri HP6.out.below.size N2 (by omega)
        obtain ⟨o7, c7, hv7⟩ := brow_sliceD hr7
        rw [e7] at hv7
        subst hv7
        obtain ⟨d1, d2, hp7⟩ := HP6.out.app1 hr7 hg7 hf7
        have HP7 := Lib.hid hp7
        have HA : (appF #[38, 9] 38 #[.slice o5 j2 c5, .string N2]).run Try.prog w6 = .ok (.slice o7 (j2 + N2.size) c7) w7 := hA
        have c6 := HP6.out.bi.cell
        clear hb6 hr7 hg7 hf7 hp7 hA))
    all_goals exact ⟨rfl, o7, c7, rfl, HP7.out⟩
   rintro e a' W7 ⟨rfl, o7, c7, rfl, HP7⟩
   clear c5a c5b CV2 HP5 CV
   have c7a := HP7.out.bb.cell
   have hbp : 0 < (blkL [] (grp L k)).length := by rw [HBl.out]; exact hbpos
   have hal2 := allG_len HSml.out k
   obtain ⟨sg, scap, hse, hscell⟩ := brow_ptr HP7.out.rs hbp
   rw [HBl.out] at hse
   injection hse with hso hsn hsc
   obtain ⟨i0, hi0, hz0, hz1, hz2⟩ := info_parts Try.infoB
   obtain ⟨v8, w8, hA8, hr8, hg8, hf8⟩ := run_append_where (P := Try.prog) W7 w.heap.size 38 38 5 i0 (.int .u8 0) 1 1 Try.underlying38 hi0 hz0 hz1 hz2 rfl (by decide) (.slice bo al bc) (allG L k).length (cellsB (allG L k)) HP7.out.rb ⟨sg, 0, none⟩ bl sc (cellsB (blkL [] (grp L k))) (by rw [Fr.cellsB_length, HBl.out]; omega) hscell cells_one (by unfold maxLen; omega) (by omega) HP7.out.below.size
   have hr8b : BRow w.heap.size w8 v8 (allG L k ++ blkL [] (grp L k)) := by
    show World.ownsRow _ _ _ _ _ _ _
    rw [List.length_append, Fr.cellsB_append, HBl.out]
    exact hr8
   obtain ⟨o8, c8, hv8⟩ := brow_sliceD hr8b
   obtain ⟨b8, hb8⟩ : ∃ b8, (allG L k ++ blkL [] (grp L k)).length = b8 := ⟨_, rfl⟩
   rw [hb8] at hv8
   subst hv8
   subst hso
   subst hsc
   obtain ⟨d1, d2, hp8⟩ := HP7.out.app2 hr8b hg8 hf8
   have HP8 := Lib.hid hp8
   have HA8 : (appF #[38, 38] 38 #[.slice bo al bc, .slice (some ⟨sg, 0, none⟩) bl sc]).run Try.prog W7 = .ok (.slice o8 b8 c8) w8 := hA8
   have HEnds := Lib.hid (H0.out.ends (A := w3.heap.size) HP8.out h4 hNi hNb)
   have HLast : Hid (∃ vi vb, PW w Z (w8.setCell ⟨Z + 1, 0, none⟩ (.slice o8 b8 c8)) vi vb (.slice none 0 0) [] (idxG L (us ++ [Value.slice (some ⟨ug, uoff, none⟩) gm uc]).length) (allG L (us ++ [Value.slice (some ⟨ug, uoff, none⟩) gm uc]).length) vi vb (w8.setCell ⟨Z + 1, 0, none⟩ (.slice o8 b8 c8))) := by
    refine ⟨.slice o7 (j2 + N2.size) c7, .slice o8 b8 c8, ?_⟩
    have h1 := HP8.out.begin
    rw [List.length_append, List.length_singleton, HK.out]
    have e1 : idxG L (k + 1) = I2 ++ N2.data.toList := by
     rw [idxG, HBl.out, <- HI2.out, HTl.out, HNl.out, hT0, List.append_assoc]
    rw [e1]
    exact h1
   clear hA8 hr8 hg8 hf8 hp8 hscell hr8b hi0 hz0 hz1 hz2
   gi_wp2
   exact ⟨HEnds.out.1, HEnds.out.2.1, HEnds.out.2.2, HLast.out⟩
  case stop => exact fun _ _ _ _ _ h => h.elim
  case done =>
   rintro D us V hD hus ⟨vi, vb, h⟩ hk
   have hq1 : us.length = 0 \/ 16 * (us.length - 1) < L.length := by rw [HN.out]; omega
   have hq2 : L.length <= 16 * us.length := by rw [HN.out]; omega
   obtain ⟨ei, eb⟩ := idxG_all L us.length hq1 hq2
   have hil := idxG_len HSml.out us.length
   have hal := allG_len HSml.out us.length
   rw [ei, eb] at h
   rw [ei] at hil
   rw [eb] at hal
   obtain ⟨io, ic, hvi⟩ := brow_sliceD h.ri
   obtain ⟨bo, bc, hvb⟩ := brow_sliceD h.rb
   subst hvi
   subst hvb
   have H := Lib.hid h
   have CV := Lib.hid (fun W g (hg : W.heap.size = g) => pvar_oneD n (by omega) W g hg)
   obtain ⟨G1, hG1⟩ : ∃ G1, V.heap.size = G1 := ⟨_, rfl⟩
   have CV2 := Lib.hid (CV.out V G1 hG1)
   have hwn : IntKind.u64.wrap (n : Int) = (n : Int) := by rw [IntKind.wrap_u64]; omega
   have HRb : Hid (res = .tuple #[.string (bs (varL n) ++ bs (idxL L) ++ bs (allD L)), .int .i64 0]) := by
    show _ = _
    rw [HRes.out, bs_app, bs_app]
    unfold bytesD
    rw [HN.out, List.append_assoc]
   have hNs : (bs (varL n)).size <= 10 := by rw [Fr.bs_size]; exact varL_le _ (by omega)
   have hIs : (bs (idxL L)).size = (idxL L).length := Fr.bs_size _
   have hAs : (bs (allD L)).size = (allD L).length := Fr.bs_size _
   generalize bs (varL n) = VN at *
   have HFin : Hid (∀ W, Below V.heap.size V W -> W.heap[D]? = some (.deferred (some [])) /\ Below w.heap.size w (W.putObj D (.deferred none)) /\ W.cell? ⟨Z, 0, none⟩ = some (.slice io (idxL L).length ic) /\ W.cell? ⟨Z + 1, 0, none⟩ = some (.slice bo (allD L).length bc) /\
     (convert 38 9 (.slice io (idxL L).length ic)).run Try.prog W = .ok (.string (bs (idxL L))) W /\ (convert 38 9 (.slice bo (allD L).length bc)).run Try.prog W = .ok (.string (bs (allD L))) W) := fun W hW => by
    have hp := H.out.on hW
    have hd : W.heap[D]? = some (.deferred (some [])) := keepD hk hW
    exact ⟨hd, hp.below.trans (belowK_b (w := w) (Nat.le_refl _) W D _ _ (by omega) hd rfl rfl), hp.bi.cell, hp.bb.cell, hp.ri.text, hp.rb.text⟩
   have a1 : ¬ 9223372036854775807 < VN.size + (bs (idxL L)).size := by omega
   have a2 : ¬ 9223372036854775807 < VN.size + (bs (idxL L)).size + (bs (allD L)).size := by omega
   have CV3 := Lib.hid (show Calls Try.prog 26 #[.slice (some ⟨G1, 0, none⟩) 1 1] (V.alloc (.cells #[.int .u64 (n : Int)] 59)).drew (fun e w' => e = .returned (.string VN) /\ Below V.drew.heap.size V.drew w') from CV.out V.drew G1 hG1)
   generalize bs (idxL L) = BI at *
   generalize bs (allD L) = BA at *
   generalize (idxL L).length = li at *
   generalize (allD L).length = la at *
   clear hIs hAs hNs h hk CV CV2 HB1 CR HP3 HSq HEg HSml HN HL hil hal hq1 hq2 ei eb H HRes HW2 HS2 HB2
   gi_wp2
   refine wpIn_wide.2 ?_
   obtain ⟨S, hS⟩ : ∃ S : World -> Prop, S = fun W => Below V.heap.size V W /\ W.cell? ⟨Z, 0, none⟩ = some (.slice io li ic) /\ W.cell? ⟨Z + 1, 0, none⟩ = some (.slice bo la bc) /\ (convert 38 9 (.slice io li ic)).run Try.prog W = .ok (.string BI) W /\ (convert 38 9 (.slice bo la bc)).run Try.prog W = .ok (.string BA) W := ⟨_, rfl⟩
   have HKb : Hid (∀ W, Below V.heap.size V W -> S W) := fun W hW => by
    obtain ⟨-, -, x1, x2, x3, x4⟩ := HFin.out W hW
    rw [hS]
    exact ⟨hW, x1, x2, x3, x4⟩
   have HKd : Hid (S V.drew) := HKb.out _ (Below.refl _ V).drew
   have HKa : Hid (∀ W o, S W -> S (W.alloc o)) := fun W o h => HKb.out _ (by rw [hS] at h; exact h.1.alloc h.1.size _)
   have HKp : Hid (∀ W W', S W -> Below V.drew.heap.size V.drew W' -> S W') := fun W W' _ h => HKb.out _ (Fr.below_predrew h)
   have HKe : Hid (∀ W, S W -> W.heap[D]? = some (.deferred (some [])) /\ Below w.heap.size w (W.putObj D (.deferred none))) := fun W h => by
    rw [hS] at h
    obtain ⟨q1, q2, -⟩ := HFin.out W h.1
    exact ⟨q1, q2⟩
   clear HFin
   subst hS
   go_region_held3 (fun W : World => Below V.heap.size V W /\ W.cell? ⟨Z, 0, none⟩ = some (.slice io li ic) /\ W.cell? ⟨Z + 1, 0, none⟩ = some (.slice bo la bc) /\ (convert 38 9 (.slice io li ic)).run Try.prog W = .ok (.string BI) W /\ (convert 38 9 (.slice bo la bc)).run Try.prog W = .ok (.string BA) W)
    (first | exact HKd.out | assumption | exact HKa.out _ _ (by assumption) | exact HKp.out _ _ (by assumption) (by assumption))
    (first
     | (go_at_call 26; refine CV3.out.mono ?_; rintro e w4 ⟨rfl, hb4⟩))
   rename_i hHeld
   obtain ⟨hd4, hw4⟩ := HKe.out _ hHeld
   have HD4 := Lib.hid hd4
   have HW4 := Lib.hid hw4
   clear hHeld hd4 hw4
   gi_wp2
   refine ⟨by simp, .inl ⟨_, _, rfl, run_takeDeferred HD4.out, ?_⟩⟩
   exact ⟨_, results_tmp2 (t := 2) (u := 3) rfl _ _ _, by rw [HRb.out]; rfl, HW4.out⟩
 ·rw [if_neg hR]
  rw [decide_eq_false hR] at CR
  obtain ⟨ao, c, rfl, hx1, hx2⟩ := h
  clear hz hR hx2 hx1
  generalize L.length = n at *
  go_enter Try.func11, Try.ntmps11
  go_wp2_with fail
  refine CR.out.mono ?_
  rintro e w1 ⟨rfl, hb1⟩
  have HB1 := Lib.hid hb1
  clear hb1
  go_wp2_with fail
  go_ret2
  exact ⟨rfl, HB1.out⟩
end Go.Proofs.Ytjfclpicoamfaaa.Di

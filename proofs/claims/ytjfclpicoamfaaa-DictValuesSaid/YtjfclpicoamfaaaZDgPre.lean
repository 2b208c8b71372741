/- The program's Prefix. -/
import Derived.Test.YtjfclpicoamfaaaZDgChunk
import Derived.Test.YtjfclpicoamfaaaZWFix
import Derived.ArgAppend

set_option maxRecDepth 100000
namespace Go.Proofs.Ytjfclpicoamfaaa.Di
open Go.RowKit Go.Shelf
open Fr (bs)
open Po (Later SeqUp KeptIn later_below kept_below)
attribute [local go_sem] Oper.semAt_some
theorem phaspre2_any (s t : ByteArray) (w : World) (hs : s.size <= 9223372036854775807) (ht : t.size <= 9223372036854775807) : Calls Try.prog 43 #[.string s, .string t] w fun e w' => e = .returned (.bool (begB s t)) /\ Below w.heap.size w w' := by
 by_cases h : t.size <= s.size
 ·have hz : decide ((t.size : Int) <= (s.size : Int)) = true := decide_eq_true (by omega)
  have h1 : (t.size : Int) <= (s.size : Int) := by omega
  have h2 : (0 : Int) <= (t.size : Int) := by omega
  have h3 : (t.size : Int).toNat = t.size := rfl
  by_cases he : s.extract 0 t.size = t
  ·have hb : begB s t = true := decide_eq_true ⟨h, he⟩
   rw [hb]
   have he2 : ((s.extract 0 t.size).toList == t.toList) = true := Fr.str_same he
   clear he hb
   go_enter Try.func43, Try.ntmps43
   go_wp2_with fail
   go_ret
   exact ⟨rfl, Below.refl _ _⟩
  ·have hb : begB s t = false := decide_eq_false fun h => he h.2
   rw [hb]
   have he2 : ((s.extract 0 t.size).toList == t.toList) = false := Fr.str_diff he
   clear he hb
   go_enter Try.func43, Try.ntmps43
   go_wp2_with fail
   go_ret
   exact ⟨rfl, Below.refl _ _⟩
 ·have hb : begB s t = false := decide_eq_false fun h' => h h'.1
  rw [hb]
  have hz : decide ((t.size : Int) <= (s.size : Int)) = false := decide_eq_false (by omega)
  have h1 : ¬ (t.size : Int) <= (s.size : Int) := by omega
  clear hb
  go_enter Try.func43, Try.ntmps43
  go_wp2_with fail
  go_ret
  exact ⟨rfl, Below.refl _ _⟩
theorem phaspre_any (s t : ByteArray) (w : World) (hs : s.size <= 9223372036854775807) (ht : t.size <= 9223372036854775807) : Calls Try.prog 32 #[.string s, .string t] w fun e w' => e = .returned (.bool (begB s t)) /\ Below w.heap.size w w' := by
 have C := Lib.hid (fun W => phaspre2_any s t W hs ht)
 generalize begB s t = b at *
 go_enter Try.func32, Try.ntmps32
 go_wp2_with fail
 refine (C.out _).mono ?_
 rintro e w1 ⟨rfl, hb⟩
 have HB := Lib.hid hb; clear hb
 go_wp2_with fail
 go_ret
 exact ⟨rfl, HB.out⟩
theorem while_take {P : En -> Bool} : ∀ (F : List En) (k : Nat), k <= F.length -> (∀ j (hj : j < F.length), j < k -> P F[j] = true) -> (∀ h : k < F.length, P F[k] = false) -> F.takeWhile P = F.take k
 | [], k, hk, _, _ => by simp
 | x :: r, 0, _, _, h => by
  have := h (by simp)
  rw [List.takeWhile_cons, if_neg (by rw [show P x = false from this]; decide)]
  rfl
 | x :: r, k + 1, hk, h1, h2 => by
  rw [List.takeWhile_cons, if_pos (show P x = true from h1 0 (by simp) (by omega)), List.take_succ_cons, while_take r k (by simpa using hk) (fun j hj hjk => h1 (j + 1) (by simpa using hj) (by omega)) (fun h => h2 (by simpa using h))]
structure FP (w : World) (Z : Nat) (p : ByteArray) (F : List En) (us : List Value) (v : Value) (V : World) : Prop where
 fa : FA w (Z + 1) F us v V
 b0 : Boxed V Z 9 (.string p)
 all : ∀ j (hj : j < F.length), j < us.length -> begB F[j].t p = true
theorem FP.later {w : World} {Z : Nat} {p : ByteArray} {F : List En} {us us' : List Value} {v : Value} {V V' : World} {B : Nat} (h : FP w Z p F us v V) (hB : w.heap.size <= B) (hl : Later OkD PtsD B us' V V') : FP w Z p F us v V' := by
 refine ⟨h.fa.later hB hl, ?_, h.all⟩
 rcases hl.block Z h.b0.lt with e | ⟨_, o, ho, ho2⟩
 ·exact e.trans h.b0
 ·have := h.b0
  rw [Boxed, ho] at this
  cases this
  rcases ho2 with ho2 | ⟨ho2, _⟩
  ·cases ho2
  ·exact ho2.elim
set_option maxHeartbeats 8000000 in
theorem pdprefix_of (F : List En) (s p : ByteArray) (w : World) (hF : F.length <= 2000000000) (hz : ∀ x ∈ F, x.t.size <= 2000000000) (hp : p.size <= 2000000000)
  (CF : ∀ W, Calls Try.prog 29 #[.string s, .string p] W fun e w' =>
   (∃ gf lb, e = .returned (.func (.func gf) #[] lb) /\ (∀ args W, (callFunc gf args).run Try.prog W = .ok (.enter gf args) W) /\ SeqUp OkD PtsD Try.prog gf lb (EncD F) (KpT [9]) F.length w') /\ Below W.heap.size W w') :
  Calls Try.prog 20 #[.string s, .string p] w fun e w' => ∃ v, e = .returned v /\ SlD w' v (F.takeWhile fun x => begB x.t p) /\ Below w.heap.size w w' := by
 obtain ⟨i1, hj, hy0, hy1, hy2⟩ := info_parts infoDE
 have HY2 := Lib.hid hy2; clear hy2
 obtain ⟨Z, hZ⟩ : ∃ Z, w.heap.size = Z := ⟨_, rfl⟩
 obtain ⟨W1, hW1⟩ : ∃ W1, (w.alloc (.cells #[.string p] 9)).alloc (.cells #[.slice none 0 0] 22) = W1 := ⟨_, rfl⟩
 have b1 : Boxed W1 (Z + 1) 22 (.slice none 0 0) := by rw [<- hW1, <- hZ]; have := Boxed.new (w.alloc (.cells #[.string p] 9)) 22 (.slice none 0 0); simpa using this
 have b0 : Boxed W1 Z 9 (.string p) := by rw [<- hW1, <- hZ]; exact (Boxed.new w 9 (.string p)).alloc _
 have hb : Below w.heap.size w W1 := by rw [<- hW1]; exact ((Below.refl _ w).alloc (Nat.le_refl _) _).alloc (by simp) _
 have HFI : Hid (FP w Z p F [] (.slice none 0 0) W1) := ⟨⟨b1, Nat.zero_le _, World.ownsRow_nil _ _ _ _, hb, by omega⟩, b0, fun j hj h => absurd h (Nat.not_lt_zero _)⟩
 have c0 := b0.cell
 have CF := Lib.hid CF
 have HW1 := Lib.hid hW1
 have HZ := Lib.hid hZ
 have hs1 : W1.heap.size = Z + 2 := by rw [<- hW1, <- hZ]; simp
 have HS1 := Lib.hid hs1
 have HF := Lib.hid hF
 have HSz := Lib.hid hz
 clear b0 b1 hb hs1
 refine (callsIn_wide (n := 9)).1 ?_
 refine callsIn_of_wp_marks Try.func20 rfl trivial ?_ rfl
 simp only [Try.ntmps20, List.size_toArray, List.length_cons, List.length_nil, Nat.reduceAdd, Nat.reduceSub, Array.replicate_succ, Array.replicate_zero, List.push_toArray, List.append_toArray, List.nil_append, List.cons_append]
 gi_wp2
 refine ⟨trivial, ?_⟩
 gi_at_call 29
 refine (callsIn_wide.2 (CF.out W1)).mono ?_
 rintro e w2 ⟨⟨gf, lb, rfl, heg, hsq⟩, hb2⟩
 have HSq := Lib.hid hsq
 have HEg := Lib.hid heg
 have HFI2 : Hid (FP w Z p F [] (.slice none 0 0) w2) := HFI.out.later (us' := []) (B := W1.heap.size) (by have := HFI.out.fa.below.size; omega) (later_below hb2)
 have hs2 : Z + 2 <= w2.heap.size := by rw [<- HS1.out]; exact hb2.size
 clear hsq heg hb2 CF c0
 gi_wp2
 refine Po.range_up rfl HEg.out HSq.out kpt_t kpt_b (Below.refl _ _) rfl
  (fun us V => ∃ v, FP w Z p F us v V)
  (fun c us V => c = .exit 0 /\ ∃ us' u v, ∃ h : us'.length < F.length, us = us' ++ [u] /\ begB (F[us'.length]'h).t p = false /\ FP w Z p F us' v V) ?abI ?abX ⟨_, HFI2.out⟩
  (fun N us u a' V => ∃ X, ∃ h : us.length < F.length, u = .agg #[.string F[us.length].t, .string F[us.length].v] /\ V.heap[X]? = some (.cells #[.string F[us.length].t, .string F[us.length].v] 43 (0, 0)) /\ Z + 1 < N /\ (∀ v, Boxed V (Z + 1) 22 v -> ∀ q, v.ownBlock = some q -> q < N) /\
   a' = { tmps := #[.string s, .string p, undef, .pointer (some ⟨Z, 0, none⟩), .slice none 0 0, .pointer (some ⟨Z + 1, 0, none⟩), .pointer (some ⟨X, 0, none⟩), .string s, .string p, .func (.func gf) #[] lb, u, undef, undef, undef, undef, undef, undef, undef, undef, undef, undef], defers := [] })
  ?axp ?assign ?body ?done ?stop
 case abI =>
  rintro us X Y ⟨v, h⟩ hl
  exact ⟨v, h.later (by omega) hl⟩
 case abX =>
  rintro c us X Y ⟨h0, us', u, v, h1, h2, h3, h⟩ hl
  exact ⟨h0, us', u, v, h1, h2, h3, h.later (by omega) hl⟩
 case axp =>
  rintro N us u a' V l' o o' hl ho hc ⟨X, h1, h2, h4, h5, h6, h7⟩
  have kb : ∀ {k : Nat} {cs : Array Value} {t : TypeId} {p : Nat × Nat}, V.heap[k]? = some (.cells cs t p) -> (V.putObj l' o').heap[k]? = some (.cells cs t p) := fun {k cs t p} hk => by
   rw [(grownBy_putObj' V l' o').block k (Array.getElem?_eq_some_iff.1 hk).1 (fun e => by cases e; rw [hk] at ho; cases ho; cases hc)]
   exact hk
  refine ⟨X, h1, h2, kb h4, h5, fun v hv q hq => h6 v ?_ q hq, h7⟩
  have hlt : Z + 1 < V.heap.size := by
   have := (Array.getElem?_eq_some_iff.1 ho).1
   omega
  exact ((grownBy_putObj' V l' o').block (Z + 1) hlt (fun e => by cases e; omega)).symm.trans hv
 case assign =>
  rintro l' us u W0 V R hk ⟨v0, h0⟩ hbe hw0 ⟨v, h⟩ ⟨h1, rfl⟩ hR
  have hb : Below V.heap.size V (V.alloc (.cells #[.string F[us.length].t, .string F[us.length].v] 43)) := (Below.refl _ V).alloc (Nat.le_refl _) _
  have hR2 := hR _ (V.alloc (.cells #[.string F[us.length].t, .string F[us.length].v] 43)) ((KeepsOthers.alloc _ _).from _) (kpt_below hb) (kept_below hb) ⟨v, h.later (B := w2.heap.size) (us' := us) (by omega) (later_below hb)⟩
   ⟨V.heap.size, h1, rfl, heap_newD V _, by omega, fun v' hv' q hq => by
    have e2 : v' = v0 := h0.fa.same (hbe.trans (hb.mono hbe.size)) hv'
    rw [e2] at hq
    exact h0.fa.lt hq, rfl⟩
  clear hR hb
  gi_wp2
  exact hR2
 case body =>
  rintro l' N us u a' V hk ⟨v, h⟩ ⟨X, h1, rfl, h3, h4, h5, rfl⟩
  have hco := h.fa.bo.cell
  have hfo := h.fa.bo.frozen
  have h6 := h5 v h.fa.bo
  clear h5
  have c0 := h.b0.cell
  have p0 : V.cell? ⟨X, 0, none⟩ = some (.string F[us.length].t) := cell_atD h3 0
  have H3x := Lib.hid h3
  have hvs : ∃ va vc, v = .slice va us.length vc := by
   rcases h.fa.row.2 with ⟨rfl, hn⟩ | ⟨g, cap, cur, rfl, _⟩
   ·exact ⟨none, 0, by rw [hn]⟩
   ·exact ⟨_, cap, rfl⟩
  have H := Lib.hid h
  have HFl5 := HF.out
  have H1 := Lib.hid h1
  have CHp := Lib.hid (fun W => phaspre_any (F[us.length]'h1).t p W (by have := HSz.out _ (List.getElem_mem h1); omega) (by omega))
  cases hbg : begB (F[us.length]'h1).t p with
  | false =>
   rw [hbg] at CHp
   have HX : Hid (∃ us' u v, ∃ h : us'.length < F.length, us ++ [Value.agg #[.string (F[us.length]'h1).t, .string (F[us.length]'h1).v]] = us' ++ [u] /\ begB (F[us'.length]'h).t p = false /\ FP w Z p F us' v V) := ⟨us, _, v, h1, rfl, hbg, h⟩
   clear h h3 hbg
   obtain ⟨va, vc, rfl⟩ := hvs
   gi_wp2
   refine ⟨trivial, ?_⟩
   gi_at_call 32
   refine (callsIn_wide.2 (CHp.out V)).mono ?_
   rintro e V3 ⟨rfl, hb3⟩
   have HX3 : Hid (∃ us' u v, ∃ h : us'.length < F.length, us ++ [Value.agg #[.string (F[us.length]'h1).t, .string (F[us.length]'h1).v]] = us' ++ [u] /\ begB (F[us'.length]'h).t p = false /\ FP w Z p F us' v V3) := by
    obtain ⟨us', u, v, q1, q2, q3, q4⟩ := HX.out
    exact ⟨us', u, v, q1, q2, q3, q4.later (B := w2.heap.size) (us' := us') (by omega) (later_below hb3)⟩
   have HKf : Hid (KeepsFrom w2.heap.size V V3) := ⟨hb3.size, fun k o _ hk ho => (hb3.block k (Array.getElem?_eq_some_iff.1 hk).1).trans hk⟩
   clear HX hb3
   gi_wp2
   exact ⟨HKf.out, rfl, HX3.out⟩
  | true =>
   rw [hbg] at CHp
   have HBg := Lib.hid hbg
   clear hbg
   obtain ⟨ft, hft⟩ : ∃ ft, (F[us.length]'h1).t = ft := ⟨_, rfl⟩
   obtain ⟨fv, hfv⟩ : ∃ fv, (F[us.length]'h1).v = fv := ⟨_, rfl⟩
   have HT := Lib.hid hft
   have HV := Lib.hid hfv
   rw [hft] at p0 CHp H3x
   rw [hfv] at H3x
   have hu2 : Value.agg #[.string (F[us.length]'h1).t, .string (F[us.length]'h1).v] = .agg #[.string ft, .string fv] := by rw [hft, hfv]
   simp only [hu2]
   obtain ⟨va, vc, rfl⟩ := hvs
   clear h h3 hft hfv hu2
   gi_wp2
   refine ⟨trivial, ?_⟩
   gi_at_call 32
   refine (callsIn_wide.2 (CHp.out V)).mono ?_
   rintro e V3 ⟨rfl, hb3⟩
   have HB3 := Lib.hid hb3
   have H3y := Lib.hid (keepD H3x.out hb3)
   have H' : Hid (FP w Z p F us (.slice va us.length vc) V3) := H.out.later (B := w2.heap.size) (us' := us) (by omega) (later_below hb3)
   have q0 : V3.cell? ⟨X, 0, none⟩ = some (.string ft) := cell_atD H3y.out 0
   have q1 : V3.cell? ⟨X, 1, none⟩ = some (.string fv) := cell_atD H3y.out 1
   have hco3 := H'.out.fa.bo.cell
   have hfo3 := H'.out.fa.bo.frozen
   have HApp : Hid (∀ (w1 : World) (v' : Value) (tmp : Obj), w1.ownsRow w.heap.size 43 2 v' (us.length + 1) (flatD (F.take us.length) ++ [.string ft, .string fv]) -> (V3.alloc tmp).grownBy w1 (Value.slice va us.length vc).ownBlock ->
     w1.cell? ⟨Z + 1, 0, none⟩ = some (.slice va us.length vc) /\ w1.frozen? ⟨Z + 1, 0, none⟩ = false /\ (∃ v, FP w Z p F (us ++ [.agg #[.string ft, .string fv]]) v (w1.setCell ⟨Z + 1, 0, none⟩ v')) /\ KeepsFrom w2.heap.size V (w1.setCell ⟨Z + 1, 0, none⟩ v') /\ KpT [9] V (w1.setCell ⟨Z + 1, 0, none⟩ v') /\ KeptIn N V (w1.setCell ⟨Z + 1, 0, none⟩ v')) := fun w1 v' tmp ho hg => by
    obtain ⟨q1, q2, q3, q4⟩ := H'.out.fa.app (u := .agg #[.string ft, .string fv]) H1.out (by rw [HT.out, HV.out]; exact ho) hg
    refine ⟨q1.cell, q1.frozen, ⟨_, q2, q4.2 _ _ _ _ (by simp) H'.out.b0, fun j hj hju => ?_⟩, ?_, kpt_t (kpt_below HB3.out) q4, (kept_below HB3.out).trans (kept_appD hg h4 h6) HB3.out.size⟩
    ·rw [List.length_append, List.length_singleton] at hju
     by_cases e : j = us.length
     ·subst e; exact HBg.out
     ·exact H'.out.all j hj (by omega)
    ·exact KeepsFrom.trans ⟨HB3.out.size, fun k o _ hk ho => (HB3.out.block k (Array.getElem?_eq_some_iff.1 hk).1).trans hk⟩ (q3.from _)
   clear hb3 p0 hco hfo c0
   gi_wp2_with (first
    | (gi_at_builtin; refine wpListIn_append_own _ rfl _ _ 22 rfl w.heap.size 43 i1 _ 2 32 Try.underlying22 hj hy0 hy1 HY2.out rfl (by decide) _ _ _ rfl (H'.out.fa.row.alloc _) _ 1 1 [.string ft, .string fv] rfl rfl (two_cellD (by simp)) two_oneD (by unfold maxLen; omega) (by omega) (by have := H'.out.fa.below.size; simp; omega) ?_; intro v1 w6 hown hgrow _; obtain ⟨g', cap', rfl⟩ := own_succD hown; obtain ⟨y1, y2, y3, y4, y5, y6⟩ := HApp.out _ _ _ hown hgrow; have H3 := Lib.hid y3; have H4 := Lib.hid y4; have H5 := Lib.hid y5; have H6 := Lib.hid y6; clear y3 y4 y5 y6 hown hgrow))
   exact ⟨H4.out, H5.out, H6.out, H3.out⟩
 case stop =>
  rintro D c us'' V hD ⟨rfl, us, u, v, h1, rfl, h2, h⟩ hk
  have hc := h.fa.bo.cell
  have hsl := h.fa.own.sl
  have hw : F.takeWhile (fun x => begB x.t p) = F.take us.length := while_take F us.length h.fa.le h.all (fun _ => h2)
  rw [<- hw] at hsl
  have HFin : Hid (SlD (V.putObj D (.deferred none)) v (F.takeWhile fun x => begB x.t p) /\ Below w.heap.size w (V.putObj D (.deferred none))) := ⟨hsl.put hk rfl, h.fa.below.trans (belowK_b (w := w) (Nat.le_refl _) V D _ _ (by omega) hk rfl rfl)⟩
  have HK := Lib.hid hk
  clear hsl h hk
  gi_wp2
  refine ⟨by simp, .inl ⟨_, _, rfl, run_takeDeferred HK.out, ?_⟩⟩
  exact ⟨_, results_tmp (t := 4) rfl _ _ _, v, rfl, HFin.out⟩
 case done =>
  rintro D us V hD hus ⟨v, h⟩ hk
  have hc := h.fa.bo.cell
  have hsl := h.fa.own.sl
  have hw : F.takeWhile (fun x => begB x.t p) = F.take us.length := while_take F us.length h.fa.le h.all (fun h => absurd h (by omega))
  rw [<- hw] at hsl
  have HFin : Hid (SlD (V.putObj D (.deferred none)) v (F.takeWhile fun x => begB x.t p) /\ Below w.heap.size w (V.putObj D (.deferred none))) := ⟨hsl.put hk rfl, h.fa.below.trans (belowK_b (w := w) (Nat.le_refl _) V D _ _ (by omega) hk rfl rfl)⟩
  have HK := Lib.hid hk
  clear hsl h hus hk
  gi_wp2
  refine ⟨by simp, .inl ⟨_, _, rfl, run_takeDeferred HK.out, ?_⟩⟩
  exact ⟨_, results_tmp (t := 4) rfl _ _ _, v, rfl, HFin.out⟩
end Go.Proofs.Ytjfclpicoamfaaa.Di
/- What the program's dict answers: Right, Pack, Unpack, Get, Prefix. -/
namespace Go.Proofs.Ytjfclpicoamfaaa.Di
open Go.RowKit
open Fr (bs)
theorem pdright_any (L : List En) (v : Value) (w : World) (h : SlD w v L) (hn : L.length <= maxLen) (hz : ∀ x ∈ L, x.t.size <= maxLen /\ x.v.size <= maxLen) : Calls Try.prog 13 #[v] w fun e w' => e = .returned (.bool (decide (RightD L))) /\ Below w.heap.size w w' := pdright_all L v w h hn hz
theorem pdpack_any (L : List En) (v : Value) (w : World) (h : SlD w v L) (hn : L.length <= 100000) (hz : ∀ x ∈ L, x.t.size <= maxLen /\ x.v.size <= 1000000) :
  Calls Try.prog 11 #[v] w fun e w' => e = .returned (if RightD L then .tuple #[.string (bs (bytesD L)), .int .i64 0] else .tuple #[.string ⟨#[]⟩, .int .i64 1]) /\ Below w.heap.size w w' := pdpack_all L v w h (by omega) hz
theorem sml_bytes {L : List En} (hS : Sml L) (hn : L.length <= 1000) : (bytesD L).length <= 1100000000 /\ (allD L).length <= 1100000000 := by
 obtain ⟨e1, e2⟩ := idxG_all L ((L.length + 15) / 16) (by omega) (by omega)
 have h1 := idxG_len hS ((L.length + 15) / 16)
 have h2 := allG_len hS ((L.length + 15) / 16)
 have h3 := varL_le L.length (by omega)
 rw [e1] at h1
 rw [e2] at h2
 unfold bytesD
 rw [List.length_append, List.length_append]
 omega
theorem pdget_any (L : List En) (t : ByteArray) (w : World) (hR : RightD L) (hS : Sml L) (hn : L.length <= 1000) (ht : t.size <= 1000000) : Calls Try.prog 22 #[.string (bs (bytesD L)), .string t] w fun e w' => e = .returned (getV (lookD L t)) /\ Below w.heap.size w w' := by
 obtain ⟨h1, h2⟩ := sml_bytes hS hn
 have hb := fromD_back t hR (by omega)
 rw [look_first t L hR.2.2, <- hb]
 exact pdget_of (fromD t (bytesD L)) (bs (bytesD L)) t w (fun W => pdfrom_any t (bytesD L) (by omega) W)
theorem pdprefix_any (L : List En) (p : ByteArray) (w : World) (hR : RightD L) (hS : Sml L) (hn : L.length <= 1000) (hp : p.size <= 1000000) : Calls Try.prog 20 #[.string (bs (bytesD L)), .string p] w fun e w' => (∃ v, e = .returned v /\ SlD w' v (prefD L p)) /\ Below w.heap.size w w' := by
 obtain ⟨h1, h2⟩ := sml_bytes hS hn
 have hb := fromD_back p hR (by omega)
 obtain ⟨k1, k2⟩ := fromD_size p (bytesD L)
 refine (pdprefix_of (fromD p (bytesD L)) (bs (bytesD L)) p w (by omega) (fun x hx => by have := (k2 x hx).1; omega) (by omega) (fun W => pdfrom_any p (bytesD L) (by omega) W)).mono ?_
 rintro e w' ⟨v, rfl, hsl, hw⟩
 refine ⟨⟨v, rfl, ?_⟩, hw⟩
 rw [hb, pref_while p L hR.2.2] at hsl
 exact hsl
end Go.Proofs.Ytjfclpicoamfaaa.Di
/- What the statements' finds answers: over the contracts. -/
namespace Go.Proofs.Ytjfclpicoamfaaa.Di
open Go.RowKit
open Fr (bs)
theorem up_ne {L : List En} (h : L.Pairwise upE) {i j : Nat} (hi : i < L.length) (hj : j < L.length) (e : L[i].t = L[j].t) : i = j := by
 rcases Nat.lt_trichotomy i j with hlt | hlt | hlt
 ·have := List.pairwise_iff_getElem.1 h i j hi hj hlt
  unfold upE at this
  rw [e, less_irr] at this
  cases this
 ·exact hlt
 ·have := List.pairwise_iff_getElem.1 h j i hj hi hlt
  unfold upE at this
  rw [e, less_irr] at this
  cases this
theorem look_at {L : List En} (h : L.Pairwise upE) {i : Nat} (hi : i < L.length) : lookD L L[i].t = some L[i].v := by
 unfold lookD
 cases hf : L.find? (fun x => decide (x.t = L[i].t)) with
 | none =>
  have := List.find?_eq_none.1 hf L[i] (List.getElem_mem hi)
  simp at this
 | some x =>
  have h1 := List.find?_some hf
  obtain ⟨j, hj, rfl⟩ := List.mem_iff_getElem.1 (List.mem_of_find?_eq_some hf)
  obtain rfl := up_ne h hj hi (of_decide_eq_true h1)
  rfl
end Go.Proofs.Ytjfclpicoamfaaa.Di
/- Chapter 13's examples: over the contracts. -/
set_option maxRecDepth 100000
namespace Go.Proofs.Ytjfclpicoamfaaa.Di
open Go.RowKit
open Fr (bs)
def exL : List En := [⟨⟨#[97, 98]⟩, ⟨#[49]⟩⟩, ⟨⟨#[97, 98, 99]⟩, ⟨#[50]⟩⟩]
theorem less_ex : less ⟨#[97, 98]⟩ ⟨#[97, 98, 99]⟩ = true := by
 unfold less
 rw [ByteArray.toList_eq, ByteArray.toList_eq]
 rfl
theorem ex_right : RightD exL := by
 refine ⟨by decide, fun x hx => ?_, List.pairwise_cons.2 ⟨fun y hy => ?_, List.pairwise_singleton ..⟩⟩
 ·simp only [exL, List.mem_cons, List.not_mem_nil, or_false] at hx
  rcases hx with rfl | rfl <;> exact ⟨by decide, by decide, by decide⟩
 ·rw [List.mem_singleton.1 hy]; exact less_ex
theorem ex_sml : Sml exL := fun x hx => by
 refine ⟨ex_right.2.1 x hx, ?_⟩
 simp only [exL, List.mem_cons, List.not_mem_nil, or_false] at hx
 rcases hx with rfl | rfl <;> decide
theorem ex_bytes : bs (bytesD exL) = ⟨#[2, 2, 97, 98, 11, 0, 2, 97, 98, 1, 49, 2, 1, 99, 1, 50]⟩ := by unfold exL; rw [ex_pack]; rfl
theorem ex_look : lookD exL ⟨#[97, 98, 99]⟩ = some ⟨#[50]⟩ := by decide +kernel
theorem ex_look2 : lookD exL ⟨#[97]⟩ = none := by decide +kernel
theorem ex_pref : prefD exL ⟨#[97, 98, 99]⟩ = [⟨⟨#[97, 98, 99]⟩, ⟨#[50]⟩⟩] := by decide +kernel
set_option maxHeartbeats 4000000 in
theorem shown13_any (w : World) : Calls Try.prog 9 #[] w fun e w' => e = .returned (.bool true) /\ Below w.heap.size w w' := by
 obtain ⟨W1, hW1⟩ : ∃ W1, w.alloc (.cells #[.string ⟨#[97, 98]⟩, .string ⟨#[49]⟩, .string ⟨#[97, 98, 99]⟩, .string ⟨#[50]⟩] 43) = W1 := ⟨_, rfl⟩
 obtain ⟨B, hB⟩ : ∃ B, w.heap.size = B := ⟨_, rfl⟩
 have hb1 : Below w.heap.size w W1 := by rw [<- hW1]; exact (Below.refl _ w).alloc (Nat.le_refl _) _
 have k1 : W1.heap[B]? = some (.cells #[.string ⟨#[97, 98]⟩, .string ⟨#[49]⟩, .string ⟨#[97, 98, 99]⟩, .string ⟨#[50]⟩] 43 (0, 0)) := by rw [<- hW1, <- hB]; exact heap_newD w _
 have k1l := (Array.getElem?_eq_some_iff.1 k1).1
 have s1 : SlD W1 (.slice (some ⟨B, 0, none⟩) 2 2) exL := by
  refine ⟨_, _, rfl, Nat.le_refl _, fun j hj => ?_⟩
  match j, hj with
  | 0, _ => exact ⟨B, 0, rfl, k1l, cell_atD k1 0, cell_atD k1 1⟩
  | 1, _ => exact ⟨B, 0, rfl, k1l, cell_atD k1 2, cell_atD k1 3⟩
 have C1 := Lib.hid (pdpack_any exL _ W1 s1 (by decide) (fun x hx => by have := ex_sml x hx; exact ⟨by have := this.1.2.1; unfold maxLen; omega, this.2⟩))
 rw [if_pos ex_right, ex_bytes] at C1
 have C2 := Lib.hid (fun W => pdget_any exL ⟨#[97, 98, 99]⟩ W ex_right ex_sml (by decide) (by decide))
 have C3 := Lib.hid (fun W => pdget_any exL ⟨#[97]⟩ W ex_right ex_sml (by decide) (by decide))
 have C4 := Lib.hid (fun W => pdprefix_any exL ⟨#[97, 98, 99]⟩ W ex_right ex_sml (by decide) (by decide))
 rw [ex_bytes, ex_look] at C2
 rw [ex_bytes, ex_look2] at C3
 rw [ex_bytes, ex_pref] at C4
 unfold getV at C2 C3
 dsimp only at C2 C3
 have HW1 := Lib.hid hW1
 have HB1 := Lib.hid hb1
 have HN : Hid (∀ {W W' : World}, Below w.heap.size w W -> Below W.heap.size W W' -> Below w.heap.size w W') := fun h1 h2 => h1.trans (h2.mono h1.size)
 clear s1 hW1 hb1 k1 k1l
 go_enter Try.func9, Try.ntmps9
 go_wp2_with fail
 rw [HW1.out]
 refine C1.out.mono ?_
 rintro e w1 ⟨rfl, hb1⟩
 have H1 := Lib.hid (HN.out HB1.out (hb1))
 clear hb1
 go_wp2_with fail
 refine (C2.out _).mono ?_
 rintro e w2 ⟨rfl, hb2⟩
 have H2 := Lib.hid (HN.out H1.out hb2)
 clear hb2
 go_wp2_with fail
 refine (C3.out _).mono ?_
 rintro e w3 ⟨rfl, hb3⟩
 have H3 := Lib.hid (HN.out H2.out hb3)
 clear hb3
 go_wp2_with fail
 refine (C4.out _).mono ?_
 rintro e w4 ⟨⟨v, rfl, hs⟩, hb4⟩
 have H4 := Lib.hid (HN.out H3.out hb4)
 obtain ⟨ao, c, rfl, _, hc⟩ := hs
 obtain ⟨g, off, rfl, hg, x1, x2⟩ := hc 0 (by simp)
 clear hb4 hc
 simp only [Nat.zero_mul, Nat.add_zero, List.getElem_cons_zero, List.length_singleton] at x1 x2 ⊢
 go_wp2_with fail
 go_ret
 exact ⟨rfl, H4.out⟩
end Go.Proofs.Ytjfclpicoamfaaa.Di
/- DictPacks over the contracts. -/
namespace Go.Proofs.Ytjfclpicoamfaaa.Di
open Go.RowKit
open Fr (bs)
theorem as_small {L : List En} (h : asB L = true) : L.length <= 300 /\ ∀ x ∈ L, x.t.size <= 100 /\ x.v.size <= 21000 := by
 obtain ⟨h1, h2, _⟩ := (asB_iff L).1 h
 exact ⟨h1, fun x hx => h2 x hx⟩
def Fits (L : List En) : Prop := L.length <= maxLen /\ ∀ x ∈ L, x.t.size <= maxLen /\ x.v.size <= maxLen
theorem as_sml {L : List En} (h : asB L = true) (hR : RightD L) : Sml L := fun x hx => ⟨hR.2.1 x hx, by have := ((as_small h).2 x hx).2; omega⟩
theorem as_yes (L : List En) (v : Value) (w : World) (h : SlD w v L) (hf : Fits L) (hs : asB L = true) : Calls Try.prog 10 #[v] w fun e w' => (∃ u, e = .returned (.tuple #[u, .bool true]) /\ SlD w' u L) /\ Below w.heap.size w w' := by
 have := as_any L v w h hf.1 hf.2
 simpa [hs] using this
theorem as_no (L : List En) (v : Value) (w : World) (h : SlD w v L) (hf : Fits L) (hs : asB L = false) : Calls Try.prog 10 #[v] w fun e w' => (∃ u, e = .returned (.tuple #[u, .bool false]) /\ SlD w' u []) /\ Below w.heap.size w w' := by
 have := as_any L v w h hf.1 hf.2
 simpa [hs] using this
end Go.Proofs.Ytjfclpicoamfaaa.Di
/- DictBack over the contracts. -/
namespace Go.Proofs.Ytjfclpicoamfaaa.Di
open Go.RowKit
open Fr (bs varL textL)
end Go.Proofs.Ytjfclpicoamfaaa.Di
/- DictReads over the contracts. -/
namespace Go.Proofs.Ytjfclpicoamfaaa.Di
open Go.RowKit
open Fr (bs FRow bytes_new byteOf byteOf_val str_len)
theorem pick_at (c : Int) (n : Nat) (h : 0 < n) : ∃ k : Nat, pickI c n = (k : Int) /\ k < n := by
 unfold pickI
 have h1 := Int.emod_nonneg (if c < 0 then -(c + 1) else c) (b := (n : Int)) (by omega)
 have h2 := Int.emod_lt_of_pos (if c < 0 then -(c + 1) else c) (b := (n : Int)) (by omega)
 exact ⟨((if c < 0 then -(c + 1) else c) % (n : Int)).toNat, by omega, by omega⟩
end Go.Proofs.Ytjfclpicoamfaaa.Di
/- DictFinds over the contracts. -/
namespace Go.Proofs.Ytjfclpicoamfaaa.Di
open Go.RowKit
open Fr (bs)
end Go.Proofs.Ytjfclpicoamfaaa.Di
/- DictValues over the contracts. -/
set_option maxRecDepth 100000
namespace Go.Proofs.Ytjfclpicoamfaaa.Di
open Go.RowKit
open Fr (bs)
def setE (L : List En) (k : Nat) (v : ByteArray) : List En := L.mapIdx fun i x => if i = k then ⟨x.t, v⟩ else x
theorem setE_len (L : List En) (k : Nat) (v : ByteArray) : (setE L k v).length = L.length := by unfold setE; simp
theorem setE_at (L : List En) (k : Nat) (v : ByteArray) (i : Nat) (h : i < L.length) : (setE L k v)[i]'(by rw [setE_len]; exact h) = if i = k then ⟨L[i].t, v⟩ else L[i] := by unfold setE; simp
theorem setE_t (L : List En) (k : Nat) (v : ByteArray) (i : Nat) (h : i < L.length) : ((setE L k v)[i]'(by rw [setE_len]; exact h)).t = L[i].t := by
 rw [setE_at]; split <;> rfl
theorem setE_right {L : List En} (hR : RightD L) (k : Nat) (v : ByteArray) (hv : v.size <= 4194304) : RightD (setE L k v) := by
 refine ⟨by rw [setE_len]; exact hR.1, fun x hx => ?_, List.pairwise_iff_getElem.2 fun i j hi hj hij => ?_⟩
 ·obtain ⟨i, hi, rfl⟩ := List.mem_iff_getElem.1 hx
  rw [setE_len] at hi
  have h0 := hR.2.1 L[i] (List.getElem_mem hi)
  rw [setE_at L k v i hi]
  split
  ·exact ⟨h0.1, h0.2.1, hv⟩
  ·exact h0
 ·rw [setE_len] at hi hj
  have := List.pairwise_iff_getElem.1 hR.2.2 i j hi hj hij
  unfold upE at this ⊢
  rw [setE_t L k v i hi, setE_t L k v j hj]
  exact this
theorem setE_sml {L : List En} (hS : Sml L) (k : Nat) (v : ByteArray) (hv : v.size <= 1000000) : Sml (setE L k v) := fun x hx => by
 obtain ⟨i, hi, rfl⟩ := List.mem_iff_getElem.1 hx
 rw [setE_len] at hi
 have h0 := hS L[i] (List.getElem_mem hi)
 rw [setE_at L k v i hi]
 split
 ·exact ⟨⟨h0.1.1, h0.1.2.1, by show v.size <= _; omega⟩, hv⟩
 ·exact h0
theorem setE_look {L : List En} (hR : RightD L) (k : Nat) (v : ByteArray) (hv : v.size <= 4194304) (i : Nat) (hi : i < L.length) : lookD (setE L k v) L[i].t = some (if i = k then v else L[i].v) := by
 have := look_at (setE_right hR k v hv).2.2 (i := i) (by rw [setE_len]; exact hi)
 rw [setE_t L k v i hi] at this
 rw [this, setE_at L k v i hi]
 split <;> rfl
theorem SlD.cells {w : World} {g off c : Nat} {L : List En} (h : SlD w (.slice (some ⟨g, off, none⟩) L.length c) L) : ∀ (j : Nat) (u : Value), (flatD L)[j]? = some u -> w.cell? ((⟨g, off, none⟩ : Addr).add j) = some u := by
 intro j u hu
 obtain ⟨ao, c', e, _, hc⟩ := h
 cases e
 have hj : j < (flatD L).length := (List.getElem?_eq_some_iff.1 hu).1
 rw [flatD_len] at hj
 obtain ⟨g', off', e, _, h1, h2⟩ := hc (j / 2) (by omega)
 cases e
 obtain ⟨f1, f2⟩ := flatD_get L (j / 2) (by omega)
 rw [add_atD]
 rcases Nat.mod_two_eq_zero_or_one j with hm | hm
 ·have e : j / 2 * 2 = j := by omega
  rw [e] at h1 f1
  rw [h1, <- hu, f1]
 ·have e : j / 2 * 2 + 1 = j := by omega
  rw [show off + j / 2 * 2 + 1 = off + (j / 2 * 2 + 1) by omega, e] at h2
  rw [e] at f2
  rw [h2, <- hu, f2]
theorem flatD_one : ∀ (L : List En), ∀ u ∈ flatD L, u.oneCell' = true
 | [], u, hu => by cases hu
 | x :: r, u, hu => by
  rcases List.mem_cons.1 hu with rfl | hu
  ·rfl
  ·rcases List.mem_cons.1 hu with rfl | hu
   ·rfl
   ·exact flatD_one r u hu
theorem own_posD {w : World} {B : Nat} {e : TypeId} {k : Nat} {v : Value} {n : Nat} {xs : List Value} (h : w.ownsRow B e k v n xs) (hn : 0 < n) : ∃ g cap, v = .slice (some ⟨g, 0, none⟩) n cap := by
 rcases h.2 with ⟨_, h0⟩ | ⟨g, cap, _, rfl, _⟩
 ·omega
 ·exact ⟨g, cap, rfl⟩
theorem OwnD.put {B : Nat} {w : World} {e : TypeId} {g cap n : Nat} {L : List En} (h : w.ownsRow B e 2 (.slice (some ⟨g, 0, none⟩) n cap) n (flatD L)) (hn : L.length = n) (k : Nat) (hk : k < n) (v : ByteArray) :
  w.frozen? ⟨g, k * 2 + 1, none⟩ = false /\ (∃ u, w.cell? ⟨g, k * 2 + 1, none⟩ = some u) /\ B <= g /\ SlD (w.setCell ⟨g, k * 2 + 1, none⟩ (.string v)) (.slice (some ⟨g, 0, none⟩) n cap) (setE L k v) := by
 rcases h.2 with ⟨hv, _⟩ | ⟨g', cap', cur, e', hB, hg, hc, _, hs, ht⟩
 ·cases hv
 ·cases e'
  have hcell : ∀ j, j < n * 2 -> cur[j]? = (flatD L)[j]? := fun j hj => by
   rw [<- ht, List.getElem?_take_of_lt hj, Array.getElem?_toList]
  refine ⟨free_at hg _, ⟨cur[k * 2 + 1]'(by rw [hs]; omega), by rw [cell_atD hg, Array.getElem?_eq_getElem (by rw [hs]; omega)]⟩, hB, _, _, by rw [setE_len, hn], by rw [setE_len]; omega, fun j hj => ?_⟩
  rw [setE_len] at hj
  have hg2 := heap_setCell_at (i := k * 2 + 1) hg (.string v)
  refine ⟨g, 0, rfl, (Array.getElem?_eq_some_iff.1 hg2).1, ?_, ?_⟩
  ·rw [Nat.zero_add, cell_atD hg2, Array.getElem?_setIfInBounds, if_neg (by omega), hcell _ (by omega), (flatD_get L j hj).1, setE_t L k v j hj]
  ·rw [Nat.zero_add, cell_atD hg2, Array.getElem?_setIfInBounds, setE_at L k v j hj]
   by_cases e : j = k
   ·subst e
    rw [if_pos rfl, if_pos (by rw [hs]; omega), if_pos rfl]
   ·rw [if_neg (by omega), if_neg e, hcell _ (by omega), (flatD_get L j hj).2]
set_option maxHeartbeats 8000000 in
theorem divals_walk (v : Value) (L : List En) (at_ : Int) (value : ByteArray) (w : World) (hv : SlD w v L) (hf : Fits L) (hs : value.size <= maxLen) (hat : -9223372036854775808 <= at_ /\ at_ <= 9223372036854775807) :
  Calls Try.prog 8 #[v, .int .i64 at_, .string value] w fun e w' => e = .returned (.bool true) /\ Below w.heap.size w w' := by
 obtain ⟨i1, hj, hy0, hy1, hy2⟩ := info_parts infoDE
 have HY2 := Lib.hid hy2; clear hy2
 have CS := Lib.hid (shown13_any w)
 have HN : Hid (∀ {W W' : World}, Below w.heap.size w W -> Below W.heap.size W W' -> Below w.heap.size w W') := fun h1 h2 => h1.trans (h2.mono h1.size)
 have CR := Lib.hid (fun W (hW : Below w.heap.size w W) => pdright_any L v W (hv.below hW) hf.1 hf.2)
 unfold maxLen at hs
 by_cases hsm : asB L = true
 ·have CM := Lib.hid (fun W (hW : Below w.heap.size w W) => as_yes L v W (hv.below hW) hf hsm)
  obtain ⟨h3, hz⟩ := as_small hsm
  by_cases hR : RightD L
  ·rw [decide_eq_true hR] at CR
   by_cases h0 : L = []
   ·have hl0 : L.length = 0 := by rw [h0]; rfl
    obtain ⟨ao, c, rfl, -, -⟩ := hv
    rw [hl0] at CM CR ⊢
    clear hf hsm hz hR h0
    go_enter Try.func8, Try.ntmps8
    go_wp2_with fail
    refine CS.out.mono ?_
    rintro e w1 ⟨rfl, hb1⟩
    have H1 := Lib.hid hb1
    clear hb1
    go_wp2_with fail
    refine (CM.out _ H1.out).mono ?_
    rintro e w2 ⟨⟨u, rfl, hu⟩, hb2⟩
    have H2 := Lib.hid (HN.out H1.out hb2)
    clear hb2
    go_wp2_with fail
    refine (CR.out _ H2.out).mono ?_
    rintro e w3 ⟨rfl, hb3⟩
    have H3 := Lib.hid (HN.out H2.out hb3)
    clear hb3
    go_wp2_with fail
    go_ret
    exact ⟨rfl, H3.out⟩
   ·have hpos := List.length_pos_iff.2 h0
    by_cases hs2 : value.size <= 1000
    ·have z3 : ¬ (1000 : Int) < (value.size : Int) := by omega
     have hS := as_sml hsm hR
     obtain ⟨n, hn⟩ : ∃ n, L.length = n := ⟨_, rfl⟩
     have hpos2 : 0 < n := by omega
     obtain ⟨k, hk1, hk2⟩ := pick_at at_ n hpos2
     have hkL : k < L.length := by omega
     have CPk := Lib.hid (fun W => pick_any at_ (n : Int) W hat (by omega))
     rw [hk1] at CPk
     have hMR := setE_right hR k value (by omega)
     have hMS := setE_sml hS k value (by omega)
     have hMl := setE_len L k value
     have C1 := Lib.hid (fun x W (hx : SlD W x (setE L k value)) => pdpack_any (setE L k value) x W hx (by omega) (fun y hy => by have := hMS y hy; have := this.1.2.1; have := (hMS y hy).2; unfold maxLen; omega))
     rw [if_pos hMR] at C1
     have CG := Lib.hid (fun W i (hi : i < L.length) => pdget_any (setE L k value) L[i].t W hMR hMS (by omega) (by have := (hS L[i] (List.getElem_mem hi)).1.2.1; omega))
     have HLk := Lib.hid (fun i (hi : i < L.length) => setE_look hR k value (by omega) i hi)
     have HVo := Lib.hid hv
     obtain ⟨ao, c, rfl, -, hc⟩ := hv
     obtain ⟨g0, off0, rfl, -, -, -⟩ := hc 0 (by omega)
     have HC := Lib.hid hc
     have HV : Hid (∀ W, Below w.heap.size w W -> SlD W (.slice (some ⟨g0, off0, none⟩) L.length c) L) := fun W hW => HVo.out.below hW
     have HNn := Lib.hid hn
     rw [hn] at CM CR ⊢
     have HM0 : Hid (setE L k value = setE L k value) := rfl
     have hkz : (k : Int) < (n : Int) := by omega
     have hk0 : (0 : Int) <= (k : Int) := by omega
     have hkn : (k : Int).toNat = k := rfl
     have hn0 : ((n : Int) == 0) = false := beq_eq_false_iff_ne.2 (by omega)
     have hn1 : ¬ n = 0 := by omega
     have hn3 : n <= 300 := by omega
     generalize bs (bytesD (setE L k value)) = T at *
     clear hf hsm hz hR hS h0 hc hk1 hpos hn hMR hMS hMl h3
     go_enter Try.func8, Try.ntmps8
     go_wp2_with fail
     refine CS.out.mono ?_
     rintro e w1 ⟨rfl, hb1⟩
     have H1 := Lib.hid hb1
     clear hb1
     go_wp2_with fail
     refine (CM.out _ H1.out).mono ?_
     rintro e w2 ⟨⟨u, rfl, hu⟩, hb2⟩
     have H2 := Lib.hid (HN.out H1.out hb2)
     clear hb2
     go_wp2_with fail
     refine (CR.out _ H2.out).mono ?_
     rintro e w3 ⟨rfl, hb3⟩
     have H3 := Lib.hid (HN.out H2.out hb3)
     clear hb3
     go_wp2_with fail
     refine (CPk.out _).mono ?_
     rintro e wp ⟨rfl, rfl⟩
     have HSl3 := Lib.hid (HV.out _ (H3.out))
     have hbz := H3.out.size
     go_wp2_with (at_builtin; go_loud (refine wpList_append_own _ rfl _ _ 22 rfl w.heap.size 43 i1 _ 2 32 Try.underlying22 hj hy0 hy1 HY2.out rfl (by decide) _ 0 [] rfl ⟨rfl, .inr ⟨w3.heap.size, 0, _, rfl, H3.out.size, heap_newD w3 _, Nat.le_refl _, Nat.zero_le _, rfl, rfl⟩⟩ _ n _ (flatD L) rfl ?len ?news (flatD_one L) ?c3 ?c4 ?c5 ?_))
     case len => rw [flatD_len, HNn.out]
     case news => exact (SlD.below HSl3.out ((Below.refl _ w3).alloc (Nat.le_refl _) _)).cells
     case c3 => unfold maxLen; omega
     case c4 => omega
     case c5 => simp; omega
     intro v4 w4 hown hgrow _
     obtain ⟨g', cap', rfl⟩ := own_posD hown hpos2
     have HB4 : Hid (Below w.heap.size w w4) := (H3.out.alloc H3.out.size _).grown hgrow (by simp; omega) (fun q hq => by have e : some w3.heap.size = some q := hq; cases e; exact H3.out.size)
     obtain ⟨f1, ⟨u1, c1⟩, hBg, hput⟩ := OwnD.put hown HNn.out k hk2 value
     obtain ⟨W5, hW5⟩ : ∃ W5, w4.setCell ⟨g', k * 2 + 1, none⟩ (.string value) = W5 := ⟨_, rfl⟩
     have HB5 : Hid (Below w.heap.size w W5) := by rw [<- hW5]; exact HB4.out.setCell (p := ⟨g', k * 2 + 1, none⟩) hBg _
     have hsl5 : SlD W5 (.slice (some ⟨g', 0, none⟩) n cap') (setE L k value) := by rw [<- hW5]; exact hput
     have HSl5 := Lib.hid hsl5
     have HW5 := Lib.hid hW5
     have H5 := HB5
     clear hown hgrow hput hW5 hsl5 HSl3 HB5
     go_wp2_with fail
     rw [HW5.out]
     refine (C1.out _ _ HSl5.out).mono ?_
     rintro e w6 ⟨rfl, hb6⟩
     have H6 := Lib.hid (HN.out H5.out hb6)
     clear hb6 f1 c1
     go_wp2_with fail
     go_loopw [15] (fun iv wr => ∃ i : Nat, i <= n /\ iv = .int .i64 (i : Int) /\ Hid (Below w.heap.size w wr)) (fun iv _ => n - (intOf iv).toNat)
     case atStart => exact ⟨0, Nat.zero_le _, rfl, H6.out⟩
     case round =>
      obtain ⟨i, hi, rfl, HB⟩ := hrel
      by_cases hlt : i < n
      ·have hiz : (i : Int) < (n : Int) := by omega
       have hiL : i < L.length := by rw [HNn.out]; exact hlt
       obtain ⟨g1, off1, e1, hg, h1, h2⟩ := HC.out i hiL
       cases e1
       have HX := Lib.hid (fun W (hW : Below w.heap.size w W) => And.intro ((hW.cell (p := ⟨g0, _, none⟩) hg).trans h1) ((hW.cell (p := ⟨g0, _, none⟩) hg).trans h2))
       have CGi := Lib.hid (fun W => CG.out W i hiL)
       rw [HLk.out i hiL] at CGi
       obtain ⟨x, hx⟩ : ∃ x, L[i] = x := ⟨_, rfl⟩
       rw [hx] at HX CGi
       clear hx h1 h2 hg
       obtain ⟨xt, xv⟩ := x
       dsimp only at HX CGi
       obtain ⟨x1, x2⟩ := HX.out wr HB.out
       have h3 : 0 <= (i : Int) := by omega
       have h4 : (i : Int).toNat = i := rfl
       by_cases hik : i = k
       ·subst hik
        have hfv : (value.toList == value.toList) = true := by simp
        rw [if_pos rfl] at CGi
        unfold getV at CGi
        dsimp only at CGi
        go_wp2_with fail
        refine (CGi.out _).mono ?_
        rintro e w7 ⟨rfl, hb7⟩
        have H7 := Lib.hid (HN.out HB.out hb7)
        obtain ⟨y1, y2⟩ := HX.out w7 H7.out
        clear hb7 x1 x2
        go_wp2_with fail
        all_goals
         go_roundw
         case rel => exact ⟨i + 1, by omega, by go_num, H7.out⟩
         case measure => simp [intOf]; omega
       ·have hib : ((i : Int) == (k : Int)) = false := beq_eq_false_iff_ne.2 (by omega)
        have hfv : (xv.toList == xv.toList) = true := by simp
        rw [if_neg hik] at CGi
        unfold getV at CGi
        dsimp only at CGi
        go_wp2_with fail
        refine (CGi.out _).mono ?_
        rintro e w7 ⟨rfl, hb7⟩
        have H7 := Lib.hid (HN.out HB.out hb7)
        obtain ⟨y1, y2⟩ := HX.out w7 H7.out
        clear hb7 x1 x2
        go_wp2_with fail
        go_roundw
        case rel => exact ⟨i + 1, by omega, by go_num, H7.out⟩
        case measure => simp [intOf]; omega
      ·obtain rfl : i = n := by omega
       have hiz : ¬ (i : Int) < (i : Int) := by omega
       go_wp2_with fail
       go_ret
       exact ⟨rfl, HB.out⟩
    ·have z3 : (1000 : Int) < (value.size : Int) := by omega
     have hn0 : ((L.length : Int) == 0) = false := beq_eq_false_iff_ne.2 (by omega)
     have hn1 : ¬ L.length = 0 := by omega
     obtain ⟨ao, c, rfl, -, -⟩ := hv
     generalize L.length = n at *
     clear hf hsm hz hR h0
     go_enter Try.func8, Try.ntmps8
     go_wp2_with fail
     refine CS.out.mono ?_
     rintro e w1 ⟨rfl, hb1⟩
     have H1 := Lib.hid hb1
     clear hb1
     go_wp2_with fail
     refine (CM.out _ H1.out).mono ?_
     rintro e w2 ⟨⟨u, rfl, hu⟩, hb2⟩
     have H2 := Lib.hid (HN.out H1.out hb2)
     clear hb2
     go_wp2_with fail
     refine (CR.out _ H2.out).mono ?_
     rintro e w3 ⟨rfl, hb3⟩
     have H3 := Lib.hid (HN.out H2.out hb3)
     clear hb3
     go_wp2_with fail
     go_ret
     exact ⟨rfl, H3.out⟩
  ·rw [decide_eq_false hR] at CR
   clear hf hsm hz hR hv
   go_enter Try.func8, Try.ntmps8
   go_wp2_with fail
   refine CS.out.mono ?_
   rintro e w1 ⟨rfl, hb1⟩
   have H1 := Lib.hid hb1
   clear hb1
   go_wp2_with fail
   refine (CM.out _ H1.out).mono ?_
   rintro e w2 ⟨⟨u, rfl, hu⟩, hb2⟩
   have H2 := Lib.hid (HN.out H1.out hb2)
   clear hb2
   go_wp2_with fail
   refine (CR.out _ H2.out).mono ?_
   rintro e w3 ⟨rfl, hb3⟩
   have H3 := Lib.hid (HN.out H2.out hb3)
   clear hb3
   go_wp2_with fail
   go_ret
   exact ⟨rfl, H3.out⟩
 ·have hsm : asB L = false := by simpa using hsm
  have CM := Lib.hid (fun W (hW : Below w.heap.size w W) => as_no L v W (hv.below hW) hf hsm)
  generalize decide (RightD L) = rb at *
  clear hf hsm hv
  go_enter Try.func8, Try.ntmps8
  go_wp2_with fail
  refine CS.out.mono ?_
  rintro e w1 ⟨rfl, hb1⟩
  have H1 := Lib.hid hb1
  clear hb1
  go_wp2_with fail
  refine (CM.out _ H1.out).mono ?_
  rintro e w2 ⟨⟨u, rfl, hu⟩, hb2⟩
  have H2 := Lib.hid (HN.out H1.out hb2)
  clear hb2
  go_wp2_with fail
  refine (CR.out _ H2.out).mono ?_
  rintro e w3 ⟨rfl, hb3⟩
  have H3 := Lib.hid (HN.out H2.out hb3)
  clear hb3
  go_wp2_with fail
  go_ret
  exact ⟨rfl, H3.out⟩
end Go.Proofs.Ytjfclpicoamfaaa.Di
/- Prefixes in plain lists; one byte appended to a text's bytes. -/
namespace Go.Proofs.Ytjfclpicoamfaaa.Di
open Go.RowKit
open Fr (bs FRow bytes_new)
def more (s : ByteArray) (c : UInt8) : ByteArray := bs (s.data.toList ++ [c])
structure BRk (B : Nat) (w : World) (g cap : Nat) (l : List UInt8) : Prop where
 lo : B <= g
 lt : g < w.heap.size
 le : l.length <= cap
 byte : ∀ j (h : j < l.length), w.cell? ⟨g, j, none⟩ = some (.int .u8 (l[j].toNat : Int))
 cells : ∀ j, j < cap -> (w.cell? ⟨g, j, none⟩).isSome = true
 fr : ∀ j, j < cap -> w.frozen? ⟨g, j, none⟩ = false
theorem BRk.below {B : Nat} {w w' : World} {g cap : Nat} {l : List UInt8} (h : BRk B w g cap l) (hb : Below w.heap.size w w') : BRk B w' g cap l :=
 ⟨h.lo, Nat.lt_of_lt_of_le h.lt hb.size, h.le, fun j hj => (hb.cell (p := ⟨g, j, none⟩) h.lt).trans (h.byte j hj), fun j hj => by rw [hb.cell (p := ⟨g, j, none⟩) h.lt]; exact h.cells j hj, fun j hj => (World.frozen?_of_block (hb.block g h.lt)).trans (h.fr j hj)⟩
theorem BRk.new (w : World) (s : ByteArray) (hs : s.size <= 1000000) : ∃ cap W2, (convert 9 38 (.string s)).run Try.prog w = .ok (.slice (some ⟨w.heap.size, 0, none⟩) s.size cap) W2 /\ BRk w.heap.size W2 w.heap.size cap s.data.toList /\ Below w.heap.size w W2 := by
 have hge : s.size <= grownCap w s.size 0 5 := grownCap_ge w _ _ _
 refine ⟨_, _, run_bytes_of_string w 9 38 5 s Try.underlying9 Try.underlying38 Try.underlying5, ?_, (Below.refl _ _).drew.alloc (Nat.le_refl _) _⟩
 generalize grownCap w s.size 0 5 = G at *
 have hsz : (bytesRow s G).size = G := by unfold bytesRow; simp; omega
 have hh : (w.drew.alloc (.cells (bytesRow s G) 5 ((bytesRow s G).size, (bytesRow s G).size + 1))).heap[w.heap.size]? = some (.cells (bytesRow s G) 5 ((bytesRow s G).size, (bytesRow s G).size + 1)) := heap_alloc_new w.drew _
 refine ⟨Nat.le_refl _, by simp, by rw [str_len]; exact hge, fun j hj => ?_, fun j hj => ?_, fun j hj => ?_⟩
 ·rw [cell_atD hh]
  have hj2 : j < s.data.size := by simpa using hj
  unfold bytesRow
  rw [Array.getElem?_append_left (by simpa using hj2), Array.getElem?_map, Array.getElem?_eq_getElem hj2]
  rfl
 ·rw [cell_atD hh, Array.getElem?_eq_getElem (by omega)]; rfl
 ·simp only [World.frozen?, hh, Bool.and_eq_false_iff, decide_eq_false_iff_not]
  left; omega
end Go.Proofs.Ytjfclpicoamfaaa.Di
/- DictPrefixes over the contracts. -/
namespace Go.Proofs.Ytjfclpicoamfaaa.Di
open Go.RowKit
open Fr (bs)
end Go.Proofs.Ytjfclpicoamfaaa.Di
